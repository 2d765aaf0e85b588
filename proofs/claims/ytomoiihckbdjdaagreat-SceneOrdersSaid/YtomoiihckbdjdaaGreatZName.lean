/-
  ZRen ZName: texts laid into one.
-/
import Derived.Test.YtomoiihckbdjdaaGreatZParts
import Derived.Shelf.SlicesG.Turned

/-
  Contract of renamed.
-/
namespace Go.Proofs.YtomoiihckbdjdaaGreat
open Go.RowKit Go.Shelf

/-- A group, a task, with other numbers. -/
def shG (y : Int) (g : GS) : GS := ⟨g.id + y, if g.par = 0 then 0 else g.par + y, g.wt, g.pd, g.qt, g.us⟩
def shT (y : Int) (t : TS) : TS := ⟨t.id + y, t.gr + y, t.wt, t.co, t.sl, t.ra, t.lv, t.lr⟩
theorem Rw.imp {α : Type} {n : Nat} {f : α → Nat → Value} {d : α} {w : World} {P Q : Nat → Prop} {v : Value} {xs : List α} (h : Rw n f d w P v xs) (hq : ∀ i, P i → Q i) : Rw n f d w Q v xs := by
  obtain ⟨A, c, rfl, h1, h2, h3⟩ := h
  refine ⟨A, c, rfl, h1, h2, fun h0 => ?_⟩
  obtain ⟨b, o, rfl, g1, g2, g3⟩ := h3 h0
  exact ⟨b, o, rfl, g1, hq _ g2, g3⟩
theorem Sce.any {w : World} {P : Nat → Prop} {v : Value} {gs : List GS} {ts : List TS} (h : Sce w P v gs ts) : Sce w Anyb v gs ts := by
  obtain ⟨vg, vt, rfl, h1, h2⟩ := h
  exact ⟨vg, vt, rfl, h1.any, h2.any⟩
def Sm (x : Int) : Prop := 0 ≤ x ∧ x ≤ 1048576
set_option maxRecDepth 100000 in
set_option maxHeartbeats 4000000 in
theorem renamed_any {w : World} {P : Nat → Prop} {v : Value} {gs : List GS} {ts : List TS} (h : Sce w P v gs ts) (hl : gs.length ≤ 1000000) (hlt : ts.length ≤ 1000000) (y : Int) (hy : Sm y) (hg' : ∀ g ∈ gs, Sm g.id ∧ Sm g.par) (ht' : ∀ t ∈ ts, Sm t.id ∧ Sm t.gr) :
    Calls Tryz.prog 34 #[v, .int .i64 y] w fun e w' => ∃ u, e = .returned u ∧ Sce w' (fun i => w.heap.size ≤ i) u (gs.map (shG y)) (ts.map (shT y)) ∧ Kp No w w' := by
  obtain ⟨vg, vt, rfl, hg, ht⟩ := h
  have hg := hg.old
  have ht := ht.old
  have k1 := (Kp.refl No w).alloc (.cells #[vg, vt] 25)
  have b1 := Blk.new w 25 #[vg, vt]
  have z1 := World.size_alloc w (.cells #[vg, vt] 25)
  obtain ⟨w1, hw1⟩ : ∃ w1, w.alloc (.cells #[vg, vt] 25) = w1 := ⟨_, rfl⟩
  have k2 := (Kp.refl No w1).alloc (.cells #[.slice none 0 0, .slice none 0 0] 25)
  have b2 := Blk.new w1 25 #[.slice none 0 0, .slice none 0 0]
  have z2 := World.size_alloc w1 (.cells #[.slice none 0 0, .slice none 0 0] 25)
  rw [hw1] at k1 b1 z1
  rw [z1] at b2 z2
  obtain ⟨w2, hw2⟩ : ∃ w2, w1.alloc (.cells #[.slice none 0 0, .slice none 0 0] 25) = w2 := ⟨_, rfl⟩
  rw [hw2] at k2 b2 z2
  have k3 := (Kp.refl No w2).alloc (.cells #[.slice none 0 0, .slice none 0 0] 25)
  have b3 := Blk.new w2 25 #[.slice none 0 0, .slice none 0 0]
  have z3 := World.size_alloc w2 (.cells #[.slice none 0 0, .slice none 0 0] 25)
  rw [z2] at b3 z3
  obtain ⟨w3, hw3⟩ : ∃ w3, w2.alloc (.cells #[.slice none 0 0, .slice none 0 0] 25) = w3 := ⟨_, rfl⟩
  rw [hw3] at k3 b3 z3
  have K3 := hid ((k1.trans k2).trans k3)
  have B1 := hid ((b1.kp0 k2).kp0 k3)
  have B2 := hid (b2.kp0 k3)
  have B3 := hid b3
  have HG := hid (((hg.kp0 k1).kp0 k2).kp0 k3)
  have HT := hid (((ht.kp0 k1).kp0 k2).kp0 k3)
  obtain ⟨A, c, rfl, _⟩ := hg
  obtain ⟨A2, c2, rfl, _⟩ := ht
  obtain ⟨n, hn⟩ : ∃ n, gs.length = n := ⟨_, rfl⟩
  obtain ⟨m, hm⟩ : ∃ m, ts.length = m := ⟨_, rfl⟩
  rw [hn] at HG hl b1 B1 hw1 ⊢
  rw [hm] at HT hlt B1 hw1 b1 ⊢
  have HN := hid hn
  have HM := hid hm
  have Z3 := hid z3
  have HG' := hid hg'
  have HT' := hid ht'
  have hy1 := hy.1
  have hy2 := hy.2
  have s0 := B1.out.cell 0
  have s1 := B1.out.cell 1
  simp only [List.getElem?_toArray, List.getElem?_cons_zero, List.getElem?_cons_succ] at s0 s1
  clear k1 k2 k3 b1 b2 b3 hn hm hg' ht' hy
  go_enter Tryz.func34, Tryz.ntmps34
  go_upto_region 3 with fail
  clear hw1 hw2 hw3
  go_loopw [13] (fun i wr => ∃ k : Nat, k ≤ n ∧ i = .int .i64 (k : Int) ∧ Hid (∃ sv, SI w3 (w.heap.size + 1 + 1) ((gs.take k).map (shG y)) sv wr)) (fun i _ => n - (vI i).toNat)
  case atStart => exact ⟨0, Nat.zero_le _, rfl, hid ⟨_, Kp.refl _ _, B3.out, Ow.nil _ _ _ _ _⟩⟩
  case round =>
    obtain ⟨k, hk, rfl, HS⟩ := hrel
    obtain ⟨sv, hs⟩ := HS.out
    have S := hid hs
    have KW := hid hs.kp
    have zw := hs.kp.size
    have Bw := B1.out.kp hs.kp (by show ¬ w.heap.size = w.heap.size + 1 + 1; omega)
    have s0 := Bw.cell 0
    have s1 := Bw.cell 1
    simp only [List.getElem?_toArray, List.getElem?_cons_zero, List.getElem?_cons_succ] at s0 s1
    obtain ⟨M, hM⟩ : ∃ M, ((gs.take k).map (shG y)).length = M := ⟨_, rfl⟩
    obtain ⟨As, cs, rfl⟩ := hs.ow.formN hM
    have hMk : M = k := by rw [← hM, List.length_map, List.length_take, HN.out]; omega
    subst hMk
    have HMM := hid hM
    have BW := hid Bw
    clear Bw hs HS hM
    by_cases hkn : M < n
    · have hxl : M < gs.length := by rw [HN.out]; exact hkn
      have Ov := HG.out.kp KW.out (fun i hi hPi e => by have e : i = w.heap.size + 1 + 1 := e; have hPi : i < w.heap.size := hPi; omega)
      obtain ⟨bb, off, rfl⟩ := Ov.there (by omega)
      have q0 := Ov.cell (j := M) (i := 0) (Kp.refl No _) hxl (by omega) rfl
      have q1 := Ov.cell (j := M) (i := 1) (Kp.refl No _) hxl (by omega) rfl
      have q2 := Ov.cell (j := M) (i := 2) (Kp.refl No _) hxl (by omega) rfl
      have q3 := Ov.cell (j := M) (i := 3) (Kp.refl No _) hxl (by omega) rfl
      have q4 := Ov.cell (j := M) (i := 4) (Kp.refl No _) hxl (by omega) rfl
      have q5 := Ov.cell (j := M) (i := 5) (Kp.refl No _) hxl (by omega) rfl
      have HE := hid (take_s gs hxl gs0)
      have hxm : gs.getD M gs0 ∈ gs := by simp [List.getD, hxl]
      have hxs := HG'.out _ hxm
      obtain ⟨x, hx⟩ : ∃ x, gs.getD M gs0 = x := ⟨_, rfl⟩
      rw [hx] at q0 q1 q2 q3 q4 q5 HE hxs
      simp only [gc, ge, List.getD_cons_zero, List.getD_cons_succ, Nat.add_zero] at q0 q1 q2 q3 q4 q5
      simp only [← Nat.add_assoc] at q1 q2 q3 q4 q5
      obtain ⟨⟨hi1, hi2⟩, hp1, hp2⟩ := hxs
      have hg1 : (M : Int) < (n : Int) := by omega
      have hwk := wrapI (x := (M : Int) + 1) (by unfold I64; omega)
      have hwi := wrapI (x := x.id + y) (by unfold I64; omega)
      have hwp := wrapI (x := x.par + y) (by unfold I64; omega)
      have kx1 := (Kp.refl No wr).alloc (.cells #[.int .i64 x.id, .int .i64 x.par, .int .i64 x.wt, .int .i64 x.pd, .int .i64 x.qt, .int .i64 x.us] 44)
      have bx1 := Blk.new wr 44 #[.int .i64 x.id, .int .i64 x.par, .int .i64 x.wt, .int .i64 x.pd, .int .i64 x.qt, .int .i64 x.us]
      have zx1 := World.size_alloc wr (.cells #[.int .i64 x.id, .int .i64 x.par, .int .i64 x.wt, .int .i64 x.pd, .int .i64 x.qt, .int .i64 x.us] 44)
      obtain ⟨y1, hy1w⟩ : ∃ y1, wr.alloc (.cells #[.int .i64 x.id, .int .i64 x.par, .int .i64 x.wt, .int .i64 x.pd, .int .i64 x.qt, .int .i64 x.us] 44) = y1 := ⟨_, rfl⟩
      rw [hy1w] at kx1 bx1 zx1
      have x10 := bx1.cell 0
      have x11 := bx1.cell 1
      have fx10 : y1.frozen? ⟨wr.heap.size, 0, none⟩ = false := bx1.frozen 0
      have kx2 := kx1.step (Kp.set1 wr.heap.size 0 y1 (.int .i64 (x.id + y))) (fun i hi e => by have e : i = wr.heap.size := e; omega)
      have bx2 := bx1.put 0 (.int .i64 (x.id + y))
      have zx2 : (y1.setCell ⟨wr.heap.size, 0, none⟩ (.int .i64 (x.id + y))).heap.size = wr.heap.size + 1 := by simpa [World.setCell] using zx1
      obtain ⟨y2, hy2w⟩ : ∃ y2, y1.setCell ⟨wr.heap.size, 0, none⟩ (.int .i64 (x.id + y)) = y2 := ⟨_, rfl⟩
      rw [hy2w] at kx2 bx2 zx2
      simp only [List.setIfInBounds_toArray, List.set_cons_zero] at bx2
      have x21 := bx2.cell 1
      have fx21 : y2.frozen? ⟨wr.heap.size, 1, none⟩ = false := bx2.frozen 1
      simp only [List.getElem?_toArray, List.getElem?_cons_zero, List.getElem?_cons_succ] at x10 x11 x21
      clear Ov hx hxl hxm
      by_cases hp0 : x.par = 0
      · have hpb : (x.par != 0) = false := by simp [hp0]
        have HSH := hid (show shG y x = ⟨x.id + y, x.par, x.wt, x.pd, x.qt, x.us⟩ by unfold shG; rw [if_pos hp0, hp0])
        have X9 := hid bx2
        have K9 := hid kx2
        have Z9 := hid zx2
        have hBx := hid (S.out.bx.kp0 kx2)
        have o90 := hBx.out.cell 0
        have e90 := bx2.cell 0
        have e91 := bx2.cell 1
        have e92 := bx2.cell 2
        have e93 := bx2.cell 3
        have e94 := bx2.cell 4
        have e95 := bx2.cell 5
        simp only [List.getElem?_toArray, List.getElem?_cons_zero, List.getElem?_cons_succ] at o90 e90 e91 e92 e93 e94 e95
        clear hp0 kx1 kx2 bx1 bx2 zx1
        go_upto_region 8 with fail
        clear hy1w hy2w x10 x11 x21 fx10 fx21
        have k12 := (Kp.refl No y2).alloc (.cells #[.int .i64 (x.id + y), .int .i64 x.par, .int .i64 x.wt, .int .i64 x.pd, .int .i64 x.qt, .int .i64 x.us] 44)
        have nb := Blk.new y2 44 #[.int .i64 (x.id + y), .int .i64 x.par, .int .i64 x.wt, .int .i64 x.pd, .int .i64 x.qt, .int .i64 x.us]
        rw [Z9.out] at nb
        have NB := hid nb
        have z12 := World.size_alloc y2 (.cells #[.int .i64 (x.id + y), .int .i64 x.par, .int .i64 x.wt, .int .i64 x.pd, .int .i64 x.qt, .int .i64 x.us] 44)
        have OZ := hid ((S.out.ow.kp0 K9.out).kp0 k12)
        have BZ := hid (hBx.out.kp0 k12)
        have KZ := hid (K9.out.trans k12)
        clear k12 nb
        go_wp2_with (first
          | (at_builtin
             refine wp_app1 usG gc_one rfl (.tmp 31) (.tmp 33) rfl (base := w3.heap.size) (xs := (gs.take M).map (shG y)) (y := shG y x) (by exact OZ.out) rfl (by
               rw [HSH.out]
               intro i hi
               match i, hi with
               | 0, _ => exact NB.out.cell 0
               | 1, _ => exact NB.out.cell 1
               | 2, _ => exact NB.out.cell 2
               | 3, _ => exact NB.out.cell 3
               | 4, _ => exact NB.out.cell 4
               | 5, _ => exact NB.out.cell 5) (by rw [HMM.out]; omega) (by rw [HMM.out]; simp only [maxLen]; omega) (by exact Nat.le_trans KW.out.size KZ.out.size) ?_
             intro v7 w7 o7 k7 p7
             obtain ⟨A7, c7, rfl⟩ := o7.formN (m := M + 1) (by rw [List.length_append, HMM.out]; rfl)
             have kA := (Kp.refl (fun i => (Value.slice As M cs).ownBlock = some i) _).grown k7 fun k hk => .inl hk
             have hne : (Value.slice As M cs).ownBlock ≠ some (w.heap.size + 1 + 1) := fun e => by have := (S.out.ow.blk e).1; have := Z3.out; omega
             have hne7 : (Value.slice A7 (M + 1) c7).ownBlock ≠ some (w.heap.size + 1 + 1) := fun e => by have := (o7.blk e).1; have := Z3.out; omega
             have b7 := BZ.out.kp kA hne
             have f70 : w7.frozen? ⟨w.heap.size + 1 + 1, 0, none⟩ = false := b7.frozen 0
             have c70 := b7.cell 0
             simp only [List.getElem?_toArray, List.getElem?_cons_zero] at c70
             have kS := Kp.set1 (w.heap.size + 1 + 1) 0 w7 (.slice A7 (M + 1) c7)
             have b8 := b7.put 0 (.slice A7 (M + 1) c7)
             simp only [List.setIfInBounds_toArray, List.set_cons_zero] at b8
             have S9 := hid (show ∃ sv, SI w3 (w.heap.size + 1 + 1) ((gs.take (M + 1)).map (shG y)) sv (w7.setCell ⟨w.heap.size + 1 + 1, 0, none⟩ (.slice A7 (M + 1) c7)) from ⟨_, ⟨((KW.out.step KZ.out fun i _ e => e.elim).step kA fun i hi e => by have := (S.out.ow.blk e).1; omega).step kS fun i _ e => e, b8, by rw [HE.out, List.map_append]; exact o7.kpx kS fun i hi e => hne7 (by rw [hi]; exact congrArg some e)⟩⟩)
             clear o7 k7 p7 kA b7 b8 kS))
        go_roundw
        case rel => exact ⟨M + 1, by omega, by go_num, S9⟩
        case measure => simp [vI]; omega
      · have hpb : (x.par != 0) = true := by simpa using hp0
        have HSH := hid (show shG y x = ⟨x.id + y, x.par + y, x.wt, x.pd, x.qt, x.us⟩ by unfold shG; rw [if_neg hp0])
        have kx3 := kx2.step (Kp.set1 wr.heap.size 1 y2 (.int .i64 (x.par + y))) (fun i hi e => by have e : i = wr.heap.size := e; omega)
        have bx3 := bx2.put 1 (.int .i64 (x.par + y))
        have zx3 : (y2.setCell ⟨wr.heap.size, 1, none⟩ (.int .i64 (x.par + y))).heap.size = wr.heap.size + 1 := by simpa [World.setCell] using zx2
        obtain ⟨y3, hy3w⟩ : ∃ y3, y2.setCell ⟨wr.heap.size, 1, none⟩ (.int .i64 (x.par + y)) = y3 := ⟨_, rfl⟩
        rw [hy3w] at kx3 bx3 zx3
        simp only [List.setIfInBounds_toArray, List.set_cons_zero, List.set_cons_succ] at bx3
        have X9 := hid bx3
        have K9 := hid kx3
        have Z9 := hid zx3
        have hBx := hid (S.out.bx.kp0 kx3)
        have o90 := hBx.out.cell 0
        have e90 := bx3.cell 0
        have e91 := bx3.cell 1
        have e92 := bx3.cell 2
        have e93 := bx3.cell 3
        have e94 := bx3.cell 4
        have e95 := bx3.cell 5
        simp only [List.getElem?_toArray, List.getElem?_cons_zero, List.getElem?_cons_succ] at o90 e90 e91 e92 e93 e94 e95
        clear hp0 kx1 kx2 kx3 bx1 bx2 bx3 zx1 zx2
        go_upto_region 8 with fail
        clear hy1w hy2w hy3w x10 x11 x21 fx10 fx21
        have k12 := (Kp.refl No y3).alloc (.cells #[.int .i64 (x.id + y), .int .i64 (x.par + y), .int .i64 x.wt, .int .i64 x.pd, .int .i64 x.qt, .int .i64 x.us] 44)
        have nb := Blk.new y3 44 #[.int .i64 (x.id + y), .int .i64 (x.par + y), .int .i64 x.wt, .int .i64 x.pd, .int .i64 x.qt, .int .i64 x.us]
        rw [Z9.out] at nb
        have NB := hid nb
        have z12 := World.size_alloc y3 (.cells #[.int .i64 (x.id + y), .int .i64 (x.par + y), .int .i64 x.wt, .int .i64 x.pd, .int .i64 x.qt, .int .i64 x.us] 44)
        have OZ := hid ((S.out.ow.kp0 K9.out).kp0 k12)
        have BZ := hid (hBx.out.kp0 k12)
        have KZ := hid (K9.out.trans k12)
        clear k12 nb
        go_wp2_with (first
          | (at_builtin
             refine wp_app1 usG gc_one rfl (.tmp 31) (.tmp 33) rfl (base := w3.heap.size) (xs := (gs.take M).map (shG y)) (y := shG y x) (by exact OZ.out) rfl (by
               rw [HSH.out]
               intro i hi
               match i, hi with
               | 0, _ => exact NB.out.cell 0
               | 1, _ => exact NB.out.cell 1
               | 2, _ => exact NB.out.cell 2
               | 3, _ => exact NB.out.cell 3
               | 4, _ => exact NB.out.cell 4
               | 5, _ => exact NB.out.cell 5) (by rw [HMM.out]; omega) (by rw [HMM.out]; simp only [maxLen]; omega) (by exact Nat.le_trans KW.out.size KZ.out.size) ?_
             intro v7 w7 o7 k7 p7
             obtain ⟨A7, c7, rfl⟩ := o7.formN (m := M + 1) (by rw [List.length_append, HMM.out]; rfl)
             have kA := (Kp.refl (fun i => (Value.slice As M cs).ownBlock = some i) _).grown k7 fun k hk => .inl hk
             have hne : (Value.slice As M cs).ownBlock ≠ some (w.heap.size + 1 + 1) := fun e => by have := (S.out.ow.blk e).1; have := Z3.out; omega
             have hne7 : (Value.slice A7 (M + 1) c7).ownBlock ≠ some (w.heap.size + 1 + 1) := fun e => by have := (o7.blk e).1; have := Z3.out; omega
             have b7 := BZ.out.kp kA hne
             have f70 : w7.frozen? ⟨w.heap.size + 1 + 1, 0, none⟩ = false := b7.frozen 0
             have c70 := b7.cell 0
             simp only [List.getElem?_toArray, List.getElem?_cons_zero] at c70
             have kS := Kp.set1 (w.heap.size + 1 + 1) 0 w7 (.slice A7 (M + 1) c7)
             have b8 := b7.put 0 (.slice A7 (M + 1) c7)
             simp only [List.setIfInBounds_toArray, List.set_cons_zero] at b8
             have S9 := hid (show ∃ sv, SI w3 (w.heap.size + 1 + 1) ((gs.take (M + 1)).map (shG y)) sv (w7.setCell ⟨w.heap.size + 1 + 1, 0, none⟩ (.slice A7 (M + 1) c7)) from ⟨_, ⟨((KW.out.step KZ.out fun i _ e => e.elim).step kA fun i hi e => by have := (S.out.ow.blk e).1; omega).step kS fun i _ e => e, b8, by rw [HE.out, List.map_append]; exact o7.kpx kS fun i hi e => hne7 (by rw [hi]; exact congrArg some e)⟩⟩)
             clear o7 k7 p7 kA b7 b8 kS))
        go_roundw
        case rel => exact ⟨M + 1, by omega, by go_num, S9⟩
        case measure => simp [vI]; omega
    · have hkk : M = n := by omega
      subst hkk
      have hng : ¬ (M : Int) < (M : Int) := by omega
      obtain ⟨wL, hwL⟩ : ∃ wL, wL = wr := ⟨_, rfl⟩
      subst hwL
      have BWL := BW
      have HTL := hid (HT.out.kp KW.out (fun i hi hPi e => by have e : i = w.heap.size + 1 + 1 := e; have hPi : i < w.heap.size := hPi; omega))
      have RL := hid (B2.out.kp KW.out (by show ¬ w.heap.size + 1 = w.heap.size + 1 + 1; omega))
      have KL := hid (K3.out.step KW.out fun i hi e => by have e : i = w.heap.size + 1 + 1 := e; omega)
      have hne := hid (show (Value.slice As M cs).ownBlock ≠ some (w.heap.size + 1 + 1) from fun e => by have := (S.out.ow.blk e).1; have := Z3.out; omega)
      have zL : w3.heap.size ≤ wL.heap.size := zw
      have HALL := hid (show (gs.take M).map (shG y) = gs.map (shG y) by rw [List.take_of_length_le (by rw [HN.out]; omega)])
      clear BW HG
      go_wp2_with fail
      go_loopw [40] (fun i wr => ∃ k : Nat, k ≤ m ∧ i = .int .i64 (k : Int) ∧ Hid (∃ sv, SJ wL (w.heap.size + 1 + 1) (.slice As M cs) ((ts.take k).map (shT y)) sv wr)) (fun i _ => m - (vI i).toNat)
      case atStart => exact ⟨0, Nat.zero_le _, rfl, hid ⟨_, Kp.refl _ _, S.out.bx, Ow.nil _ _ _ _ _⟩⟩
      case round =>
        obtain ⟨k, hk2, rfl, HS⟩ := hrel
        obtain ⟨sv, hs⟩ := HS.out
        have T := hid hs
        have KW2 := hid hs.kp
        have zw2 := hs.kp.size
        have Bw := BWL.out.kp hs.kp (by show ¬ w.heap.size = w.heap.size + 1 + 1; omega)
        have s1 := Bw.cell 1
        have o0 := hs.bx.cell 0
        have o1 := hs.bx.cell 1
        simp only [List.getElem?_toArray, List.getElem?_cons_zero, List.getElem?_cons_succ] at s1 o0 o1
        obtain ⟨N, hN⟩ : ∃ N, ((ts.take k).map (shT y)).length = N := ⟨_, rfl⟩
        obtain ⟨At, ct, rfl⟩ := hs.ow.formN hN
        have hNk : N = k := by rw [← hN, List.length_map, List.length_take, HM.out]; omega
        subst hNk
        have HNN := hid hN
        clear Bw hs HS hN
        by_cases hkn2 : N < m
        · have hxl : N < ts.length := by rw [HM.out]; exact hkn2
          have Ov := HTL.out.kp KW2.out (fun i hi hPi e => by have e : i = w.heap.size + 1 + 1 := e; have hPi : i < w.heap.size := hPi; omega)
          obtain ⟨bt, off2, rfl⟩ := Ov.there (by omega)
          have q0 := Ov.cell (j := N) (i := 0) (Kp.refl No _) hxl (by omega) rfl
          have q1 := Ov.cell (j := N) (i := 1) (Kp.refl No _) hxl (by omega) rfl
          have q2 := Ov.cell (j := N) (i := 2) (Kp.refl No _) hxl (by omega) rfl
          have q3 := Ov.cell (j := N) (i := 3) (Kp.refl No _) hxl (by omega) rfl
          have q4 := Ov.cell (j := N) (i := 4) (Kp.refl No _) hxl (by omega) rfl
          have q5 := Ov.cell (j := N) (i := 5) (Kp.refl No _) hxl (by omega) rfl
          have q6 := Ov.cell (j := N) (i := 6) (Kp.refl No _) hxl (by omega) rfl
          have q7 := Ov.cell (j := N) (i := 7) (Kp.refl No _) hxl (by omega) rfl
          have HE := hid (take_s ts hxl ts0)
          have hxm : ts.getD N ts0 ∈ ts := by simp [List.getD, hxl]
          have hxs := HT'.out _ hxm
          obtain ⟨x, hx⟩ : ∃ x, ts.getD N ts0 = x := ⟨_, rfl⟩
          rw [hx] at q0 q1 q2 q3 q4 q5 q6 q7 HE hxs
          simp only [tc, te, List.getD_cons_zero, List.getD_cons_succ, Nat.add_zero] at q0 q1 q2 q3 q4 q5 q6 q7
          simp only [← Nat.add_assoc] at q1 q2 q3 q4 q5 q6 q7
          obtain ⟨⟨hi1, hi2⟩, hp1, hp2⟩ := hxs
          have hg1 : (N : Int) < (m : Int) := by omega
          have hwk := wrapI (x := (N : Int) + 1) (by unfold I64; omega)
          have hwi := wrapI (x := x.id + y) (by unfold I64; omega)
          have hwp := wrapI (x := x.gr + y) (by unfold I64; omega)
          have kx1 := (Kp.refl No wr).alloc (.cells #[.int .i64 x.id, .int .i64 x.gr, .int .i64 x.wt, .int .u64 x.co, .bool x.sl, .int .i64 x.ra, .int .i64 x.lv, .int .i64 x.lr] 48)
          have bx1 := Blk.new wr 48 #[.int .i64 x.id, .int .i64 x.gr, .int .i64 x.wt, .int .u64 x.co, .bool x.sl, .int .i64 x.ra, .int .i64 x.lv, .int .i64 x.lr]
          have zx1 := World.size_alloc wr (.cells #[.int .i64 x.id, .int .i64 x.gr, .int .i64 x.wt, .int .u64 x.co, .bool x.sl, .int .i64 x.ra, .int .i64 x.lv, .int .i64 x.lr] 48)
          obtain ⟨y1, hy1w⟩ : ∃ y1, wr.alloc (.cells #[.int .i64 x.id, .int .i64 x.gr, .int .i64 x.wt, .int .u64 x.co, .bool x.sl, .int .i64 x.ra, .int .i64 x.lv, .int .i64 x.lr] 48) = y1 := ⟨_, rfl⟩
          rw [hy1w] at kx1 bx1 zx1
          have x10 := bx1.cell 0
          have x11 := bx1.cell 1
          have fx10 : y1.frozen? ⟨wr.heap.size, 0, none⟩ = false := bx1.frozen 0
          have kx2 := kx1.step (Kp.set1 wr.heap.size 0 y1 (.int .i64 (x.id + y))) (fun i hi e => by have e : i = wr.heap.size := e; omega)
          have bx2 := bx1.put 0 (.int .i64 (x.id + y))
          have zx2 : (y1.setCell ⟨wr.heap.size, 0, none⟩ (.int .i64 (x.id + y))).heap.size = wr.heap.size + 1 := by simpa [World.setCell] using zx1
          obtain ⟨y2, hy2w⟩ : ∃ y2, y1.setCell ⟨wr.heap.size, 0, none⟩ (.int .i64 (x.id + y)) = y2 := ⟨_, rfl⟩
          rw [hy2w] at kx2 bx2 zx2
          simp only [List.setIfInBounds_toArray, List.set_cons_zero] at bx2
          have x21 := bx2.cell 1
          have fx21 : y2.frozen? ⟨wr.heap.size, 1, none⟩ = false := bx2.frozen 1
          simp only [List.getElem?_toArray, List.getElem?_cons_zero, List.getElem?_cons_succ] at x10 x11 x21
          have kx3 := kx2.step (Kp.set1 wr.heap.size 1 y2 (.int .i64 (x.gr + y))) (fun i hi e => by have e : i = wr.heap.size := e; omega)
          have bx3 := bx2.put 1 (.int .i64 (x.gr + y))
          have zx3 : (y2.setCell ⟨wr.heap.size, 1, none⟩ (.int .i64 (x.gr + y))).heap.size = wr.heap.size + 1 := by simpa [World.setCell] using zx2
          obtain ⟨y3, hy3w⟩ : ∃ y3, y2.setCell ⟨wr.heap.size, 1, none⟩ (.int .i64 (x.gr + y)) = y3 := ⟨_, rfl⟩
          rw [hy3w] at kx3 bx3 zx3
          simp only [List.setIfInBounds_toArray, List.set_cons_zero, List.set_cons_succ] at bx3
          have K9 := hid kx3
          have Z9 := hid zx3
          have hBx := hid (T.out.bx.kp0 kx3)
          have o91 := hBx.out.cell 1
          have e90 := bx3.cell 0
          have e91 := bx3.cell 1
          have e92 := bx3.cell 2
          have e93 := bx3.cell 3
          have e94 := bx3.cell 4
          have e95 := bx3.cell 5
          have e96 := bx3.cell 6
          have e97 := bx3.cell 7
          simp only [List.getElem?_toArray, List.getElem?_cons_zero, List.getElem?_cons_succ] at o91 e90 e91 e92 e93 e94 e95 e96 e97
          clear Ov hx hxl hxm kx1 kx2 kx3 bx1 bx2 bx3 zx1 zx2
          go_upto_region 15 with fail
          clear hy1w hy2w hy3w x10 x11 x21 fx10 fx21
          have k12 := (Kp.refl No y3).alloc (.cells #[.int .i64 (x.id + y), .int .i64 (x.gr + y), .int .i64 x.wt, .int .u64 x.co, .bool x.sl, .int .i64 x.ra, .int .i64 x.lv, .int .i64 x.lr] 48)
          have nb := Blk.new y3 48 #[.int .i64 (x.id + y), .int .i64 (x.gr + y), .int .i64 x.wt, .int .u64 x.co, .bool x.sl, .int .i64 x.ra, .int .i64 x.lv, .int .i64 x.lr]
          rw [Z9.out] at nb
          have NB := hid nb
          have z12 := World.size_alloc y3 (.cells #[.int .i64 (x.id + y), .int .i64 (x.gr + y), .int .i64 x.wt, .int .u64 x.co, .bool x.sl, .int .i64 x.ra, .int .i64 x.lv, .int .i64 x.lr] 48)
          have OZ := hid ((T.out.ow.kp0 K9.out).kp0 k12)
          have BZ := hid (hBx.out.kp0 k12)
          have KZ := hid (K9.out.trans k12)
          clear k12 nb
          go_wp2_with (first
            | (at_builtin
               refine wp_app1 usT tc_one rfl (.tmp 55) (.tmp 57) rfl (base := wL.heap.size) (xs := (ts.take N).map (shT y)) (y := shT y x) (by exact OZ.out) rfl (by
                 intro i hi
                 match i, hi with
                 | 0, _ => exact NB.out.cell 0
                 | 1, _ => exact NB.out.cell 1
                 | 2, _ => exact NB.out.cell 2
                 | 3, _ => exact NB.out.cell 3
                 | 4, _ => exact NB.out.cell 4
                 | 5, _ => exact NB.out.cell 5
                 | 6, _ => exact NB.out.cell 6
                 | 7, _ => exact NB.out.cell 7) (by rw [HNN.out]; omega) (by rw [HNN.out]; simp only [maxLen]; omega) (by exact Nat.le_trans KW2.out.size KZ.out.size) ?_
               intro v7 w7 o7 k7 p7
               obtain ⟨A7, c7, rfl⟩ := o7.formN (m := N + 1) (by rw [List.length_append, HNN.out]; rfl)
               have kA := (Kp.refl (fun i => (Value.slice At N ct).ownBlock = some i) _).grown k7 fun k hk => .inl hk
               have hne6 : (Value.slice At N ct).ownBlock ≠ some (w.heap.size + 1 + 1) := fun e => by have := (T.out.ow.blk e).1; have := Z3.out; omega
               have hne7 : (Value.slice A7 (N + 1) c7).ownBlock ≠ some (w.heap.size + 1 + 1) := fun e => by have := (o7.blk e).1; have := Z3.out; omega
               have b7 := BZ.out.kp kA hne6
               have f71 : w7.frozen? ⟨w.heap.size + 1 + 1, 1, none⟩ = false := b7.frozen 1
               have c71 := b7.cell 1
               simp only [List.getElem?_toArray, List.getElem?_cons_zero, List.getElem?_cons_succ] at c71
               have kS := Kp.set1 (w.heap.size + 1 + 1) 1 w7 (.slice A7 (N + 1) c7)
               have b8 := b7.put 1 (.slice A7 (N + 1) c7)
               simp only [List.setIfInBounds_toArray, List.set_cons_zero, List.set_cons_succ] at b8
               have S9 := hid (show ∃ sv, SJ wL (w.heap.size + 1 + 1) (.slice As M cs) ((ts.take (N + 1)).map (shT y)) sv (w7.setCell ⟨w.heap.size + 1 + 1, 1, none⟩ (.slice A7 (N + 1) c7)) from ⟨_, ⟨((KW2.out.step KZ.out fun i _ e => e.elim).step kA fun i hi e => by have := (T.out.ow.blk e).1; omega).step kS fun i _ e => e, b8, by rw [HE.out, List.map_append]; exact o7.kpx kS fun i hi e => hne7 (by rw [hi]; exact congrArg some e)⟩⟩)
               clear o7 k7 p7 kA b7 b8 kS))
          go_roundw
          case rel => exact ⟨N + 1, by omega, by go_num, S9⟩
          case measure => simp [vI]; omega
        · have hkk : N = m := by omega
          subst hkk
          have hng2 : ¬ (N : Int) < (N : Int) := by omega
          have RW := RL.out.kp KW2.out (by show ¬ w.heap.size + 1 = w.heap.size + 1 + 1; omega)
          have r0 := RW.cell 0
          have r1 := RW.cell 1
          have f0 : wr.frozen? ⟨w.heap.size + 1, 0, none⟩ = false := RW.frozen 0
          have f1 : wr.frozen? ⟨w.heap.size + 1, 1, none⟩ = false := RW.frozen 1
          simp only [List.getElem?_toArray, List.getElem?_cons_zero, List.getElem?_cons_succ] at r0 r1
          have hnt := hid (show (Value.slice At N ct).ownBlock ≠ some (w.heap.size + 1) from fun e => by have := (T.out.ow.blk e).1; have := Z3.out; omega)
          have hng1 := hid (show (Value.slice As M cs).ownBlock ≠ some (w.heap.size + 1) from fun e => by have := (S.out.ow.blk e).1; have := Z3.out; omega)
          have og := S.out.ow.kpx KW2.out fun i hi e => hne.out (by rw [hi]; exact congrArg some e)
          rw [HALL.out] at og
          have OGr := hid og
          have ot := T.out.ow
          rw [List.take_of_length_le (by rw [HM.out]; omega)] at ot
          have OTr := hid ot
          clear og ot
          go_wp2
          have fin : ∀ W, Kp (Only (w.heap.size + 1)) wr W → Sce W (fun i => w.heap.size ≤ i) (.agg #[.slice As M cs, .slice At N ct]) (gs.map (shG y)) (ts.map (shT y)) ∧ Kp No w W := fun W k => by
            refine ⟨⟨_, _, rfl, ((OGr.out.kpx k fun i hi e => hng1.out (by rw [hi]; exact congrArg some e)).rwp).imp fun i hi => by have := hi.1; have := Z3.out; omega, ((OTr.out.kpx k fun i hi e => hnt.out (by rw [hi]; exact congrArg some e)).rwp).imp fun i hi => by have := hi.1; have := Z3.out; omega⟩, ?_⟩
            exact (KL.out.step KW2.out fun i hi e => by have e : i = w.heap.size + 1 + 1 := e; omega).step k fun i hi e => by have e : i = w.heap.size + 1 := e; omega
          refine bodyPost_ret (v := .agg #[.slice As M cs, .slice At N ct]) ?_ rfl ⟨_, rfl, fin _ ?_⟩
          · rw [results_cell rfl]
            go_simp
          exact ((Kp.refl (Only (w.heap.size + 1)) wr).setCell (p := ⟨w.heap.size + 1, 0, none⟩) (.inl rfl) _).setCell (p := ⟨w.heap.size + 1, 1, none⟩) (.inl rfl) _
end Go.Proofs.YtomoiihckbdjdaaGreat

/-
  Contract of Rename.
-/
namespace Go.Proofs.YtomoiihckbdjdaaGreat
open Go.RowKit Go.Shelf

theorem results_cell2 {fn : Func} {p q : Tmp} {ty : TypeId} (h : fn.results = #[.cell p ty, .tmp q]) (tmps : Array Value) (P : Program) (w : World) :
    (results fn tmps).run P w = ((asAddr (tmps.getD p undef)).run P w).andThen fun a w₁ => ((loadVar ty a).run P w₁).andThen fun v w₂ => .ok (.tuple #[v, tmps.getD q undef]) w₂ := by
  simp only [results, h]
  simp [Sem.run_bind, Result.andThen]
theorem max_any {w : World} {base : Nat} {u : Value} {xs : List Int} (h : Ow w base 3 1 zI u xs) (h0 : 0 < xs.length) :
    Calls Tryz.prog 33 #[u] w fun e w' => e = .returned (.int .i64 (Lib.maxOf xs)) ∧ w' = w := by
  obtain ⟨b, c, rfl, hb, hbl, hc, hm⟩ := h.form2 h0
  unfold maxLen at hm
  have := AnyG.slices_Max_int Tryz.maxA b 0 xs.length c xs w h0 (Nat.le_refl _) (by omega) (fun j hj => by
    have h1 := h.cellAt (d := 0) (i := 0) hj (by omega)
    rw [Nat.mul_one, Nat.add_zero] at h1
    rw [Nat.zero_add]
    exact h1)
  rw [List.take_length] at this
  exact this
theorem fold_max (l : List Int) : ∀ a : Int, (l.foldl max a = a ∨ l.foldl max a ∈ l) ∧ a ≤ l.foldl max a ∧ ∀ x ∈ l, x ≤ l.foldl max a := by
  induction l with
  | nil => exact fun a => ⟨.inl rfl, Int.le_refl _, fun x hx => by cases hx⟩
  | cons y l ih =>
    intro a
    rw [List.foldl_cons]
    obtain ⟨h1, h2, h3⟩ := ih (max a y)
    refine ⟨?_, by omega, fun x hx => ?_⟩
    · rcases h1 with h1 | h1
      · rw [h1]
        by_cases e : y ≤ a
        · exact .inl (by omega)
        · exact .inr (by rw [show max a y = y by omega]; exact List.mem_cons_self)
      · exact .inr (List.mem_cons_of_mem _ h1)
    · rcases List.mem_cons.1 hx with e | hx
      · rw [e]
        omega
      · exact h3 x hx
theorem maxOf_mem {l : List Int} (h : l ≠ []) : Lib.maxOf l ∈ l := by
  cases l with
  | nil => exact absurd rfl h
  | cons y l =>
    rcases (fold_max (y :: l) y).1 with e | e
    · show (y :: l).foldl max y ∈ y :: l
      rw [e]
      exact List.mem_cons_self
    · exact e
theorem maxOf_le {l : List Int} : ∀ x ∈ l, x ≤ Lib.maxOf l := (fold_max l (l.headD 0)).2.2
/-- Of a scene that can be all numbers are small. -/
theorem ok_sm {gs : List GS} {ts : List TS} (h : checkS gs ts = 0) : (∀ g ∈ gs, Sm g.id ∧ Sm g.par) ∧ (∀ t ∈ ts, Sm t.id ∧ Sm t.gr) ∧ gs.length ≤ 4096 ∧ ts.length ≤ 4096 ∧ 0 < gs.length := by
  cases gs with
  | nil =>
    have h2 : (2 : Int) = 0 := h
    exact absurd h2 (by decide)
  | cons g0 gt =>
    obtain ⟨h1, h2, h3, h4, h5, h6⟩ := check0 h
    have hid : ∀ g ∈ g0 :: gt, Sm g.id := fun g hg => by
      have : wrongG g = false := by
        cases e : wrongG g with
        | false => rfl
        | true => exact absurd (.inl (List.any_eq_true.2 ⟨g, hg, e⟩)) h2
      unfold wrongG numB at this
      simp only [Bool.or_eq_false_iff, Bool.not_eq_false', Bool.and_eq_true, decide_eq_true_eq] at this
      unfold Sm
      omega
    have hin : ∀ x : Int, x ∈ (g0 :: gt).map (·.id) → Sm x := fun x hx => by
      obtain ⟨g, hg, rfl⟩ := List.mem_map.1 hx
      exact hid g hg
    unfold lostB at h4
    simp only [Bool.or_eq_true, not_or, List.any_eq_true, not_exists, not_and] at h4
    obtain ⟨⟨a1, a2⟩, a3⟩ := h4
    refine ⟨fun g hg => ⟨hid g hg, ?_⟩, fun t ht => ⟨?_, ?_⟩, by omega, by omega, by simp⟩
    · have := a2 g hg
      simp only [Bool.and_eq_true, Bool.not_eq_true', decide_eq_false_iff_not, bne_iff_ne, ne_eq, not_and, Classical.not_not] at this
      by_cases hp : g.par = 0
      · rw [hp]
        unfold Sm
        omega
      · exact hin _ (this hp)
    · have : wrongT t = false := by
        cases e : wrongT t with
        | false => rfl
        | true => exact absurd (.inr (List.any_eq_true.2 ⟨t, ht, e⟩)) h2
      unfold wrongT numB at this
      simp only [Bool.or_eq_false_iff, Bool.not_eq_false', Bool.and_eq_true, decide_eq_true_eq] at this
      unfold Sm
      omega
    · have := a3 t ht
      simp only [Bool.not_eq_true', decide_eq_false_iff_not, Classical.not_not] at this
      exact hin _ this
/-- What is told of a scene and a number. -/
noncomputable def renE (gs : List GS) (ts : List TS) (y : Int) : Int := if y < 0 ∨ 1048576 < y then 1 else if checkS gs ts ≠ 0 then checkS gs ts else if 1048576 < Lib.maxOf (idsOf gs ts) + y then 6 else 0
theorem max_sm {gs : List GS} {ts : List TS} (h : checkS gs ts = 0) : Sm (Lib.maxOf (idsOf gs ts)) := by
  obtain ⟨h1, h2, _, _, h5⟩ := ok_sm h
  have hne : idsOf gs ts ≠ [] := by
    unfold idsOf
    intro e
    have := congrArg List.length e
    rw [List.length_append, List.length_map, List.length_nil] at this
    omega
  have := maxOf_mem hne
  unfold idsOf at this ⊢
  rcases List.mem_append.1 this with h | h
  · obtain ⟨g, hg, e⟩ := List.mem_map.1 h
    rw [← e]
    exact (h1 g hg).1
  · obtain ⟨t, ht, e⟩ := List.mem_map.1 h
    rw [← e]
    exact (h2 t ht).1
set_option maxRecDepth 100000 in
set_option maxHeartbeats 4000000 in
theorem rename_any {w : World} {P : Nat → Prop} {v : Value} {gs : List GS} {ts : List TS} (h : Sce w P v gs ts) (hp : ∀ g ∈ gs, I64 g.id ∧ I64 g.par) (hpt : ∀ t ∈ ts, I64 t.gr) (y : Int) {r : Int} (hr : renE gs ts y = r) :
    Calls Tryz.prog 15 #[v, .int .i64 y] w fun e w' => ∃ u, e = .returned (.tuple #[u, .int .i64 r]) ∧ Sce w' Anyb u (if r = 0 then gs.map (shG y) else []) (if r = 0 then ts.map (shT y) else []) ∧ Kp No w w' := by
  obtain ⟨vg, vt, rfl, hg, ht⟩ := id h
  have k1 := (Kp.refl No w).alloc (.cells #[vg, vt] 25)
  have b1 := Blk.new w 25 #[vg, vt]
  have z1 := World.size_alloc w (.cells #[vg, vt] 25)
  obtain ⟨w1, hw1⟩ : ∃ w1, w.alloc (.cells #[vg, vt] 25) = w1 := ⟨_, rfl⟩
  rw [hw1] at k1 b1 z1
  have k2 := (Kp.refl No w1).alloc (.cells #[.slice none 0 0, .slice none 0 0] 25)
  have b2 := Blk.new w1 25 #[.slice none 0 0, .slice none 0 0]
  obtain ⟨w2, hw2⟩ : ∃ w2, w1.alloc (.cells #[.slice none 0 0, .slice none 0 0] 25) = w2 := ⟨_, rfl⟩
  rw [hw2] at k2 b2
  rw [z1] at b2
  have K2 := hid (k1.trans k2)
  have B2 := hid (b1.kp0 k2)
  have R2 := hid b2
  have h2 := (h.kp0 k1).kp0 k2
  have s0 := B2.out.cell 0
  have s1 := B2.out.cell 1
  have r0 := b2.cell 0
  have r1 := b2.cell 1
  have f0 : w2.frozen? ⟨w.heap.size + 1, 0, none⟩ = false := b2.frozen 0
  have f1 : w2.frozen? ⟨w.heap.size + 1, 1, none⟩ = false := b2.frozen 1
  simp only [List.getElem?_toArray, List.getElem?_cons_zero, List.getElem?_cons_succ] at s0 s1 r0 r1
  obtain ⟨A, c, rfl, _⟩ := hg
  obtain ⟨A2, c2, rfl, _⟩ := ht
  clear k1 k2 b1 b2 h
  unfold renE at hr
  by_cases hy : y < 0 ∨ 1048576 < y
  · rw [if_pos hy] at hr
    subst hr
    rw [if_neg (by decide), if_neg (by decide)]
    rcases Classical.em (y < 0) with hlt | hlt
    · clear hy
      go_enter Tryz.func15, Tryz.ntmps15
      go_upto_region 1 with fail
      clear hw1 hw2
      go_wp2_with fail
      have fin : ∀ W, Kp (Only (w.heap.size + 1)) w2 W → Sce W Anyb (.agg #[.slice none 0 0, .slice none 0 0]) [] [] ∧ Kp No w W := fun W k => ⟨⟨_, _, rfl, Rw.nil _ _ _ _ _, Rw.nil _ _ _ _ _⟩, K2.out.step k fun i hi e => by have e : i = w.heap.size + 1 := e; omega⟩
      refine bodyPost_ret (v := .tuple #[.agg #[.slice none 0 0, .slice none 0 0], .int .i64 1]) ?_ rfl ⟨_, rfl, fin _ ?_⟩
      · rw [results_cell2 rfl]
        go_simp
      exact ((Kp.refl (Only (w.heap.size + 1)) w2).setCell (p := ⟨w.heap.size + 1, 0, none⟩) (.inl rfl) _).setCell (p := ⟨w.heap.size + 1, 1, none⟩) (.inl rfl) _
    · have hgt : 1048576 < y := by omega
      clear hy
      go_enter Tryz.func15, Tryz.ntmps15
      go_upto_region 1 with fail
      clear hw1 hw2
      go_wp2_with fail
      have fin : ∀ W, Kp (Only (w.heap.size + 1)) w2 W → Sce W Anyb (.agg #[.slice none 0 0, .slice none 0 0]) [] [] ∧ Kp No w W := fun W k => ⟨⟨_, _, rfl, Rw.nil _ _ _ _ _, Rw.nil _ _ _ _ _⟩, K2.out.step k fun i hi e => by have e : i = w.heap.size + 1 := e; omega⟩
      refine bodyPost_ret (v := .tuple #[.agg #[.slice none 0 0, .slice none 0 0], .int .i64 1]) ?_ rfl ⟨_, rfl, fin _ ?_⟩
      · rw [results_cell2 rfl]
        go_simp
      exact ((Kp.refl (Only (w.heap.size + 1)) w2).setCell (p := ⟨w.heap.size + 1, 0, none⟩) (.inl rfl) _).setCell (p := ⟨w.heap.size + 1, 1, none⟩) (.inl rfl) _
  · rw [if_neg hy] at hr
    have hy1 : ¬ y < 0 := fun e => hy (.inl e)
    have hy2 : ¬ 1048576 < y := fun e => hy (.inr e)
    clear hy
    obtain ⟨ce, hce⟩ : ∃ ce, checkS gs ts = ce := ⟨_, rfl⟩
    rw [hce] at hr
    have HC := zcheck_any h2 hp hpt
    rw [hce] at HC
    have HC := hid HC
    by_cases hc0 : ce = 0
    · subst hc0
      rw [if_neg (by simp)] at hr
      obtain ⟨m1, m2, l1, l2, l3⟩ := ok_sm hce
      obtain ⟨x1, x2⟩ := max_sm hce
      obtain ⟨mx, hmx⟩ : ∃ mx, Lib.maxOf (idsOf gs ts) = mx := ⟨_, rfl⟩
      rw [hmx] at hr x1 x2
      have HMX := hid hmx
      have HI := hid (fun (W : World) (k : Kp No w2 W) => ids_any (h2.kp0 k) (by omega) (by omega))
      have HID := hid (show 0 < (idsOf gs ts).length by unfold idsOf; rw [List.length_append, List.length_map]; omega)
      have HRN := hid (fun (W : World) (k : Kp No w2 W) => renamed_any (h2.kp0 k) (by omega) (by omega) y ⟨by omega, by omega⟩ m1 m2)
      have hwm := wrapI (x := mx + y) (by unfold I64; omega)
      by_cases hbig : 1048576 < mx + y
      · rw [if_pos hbig] at hr
        subst hr
        rw [if_neg (by decide), if_neg (by decide)]
        clear h2 hp hpt hce m1 m2 hmx
        go_enter Tryz.func15, Tryz.ntmps15
        go_upto_region 1 with fail
        clear hw1 hw2
        go_wp2_with (first
          | (go_at_call 9
             with_reducible refine HC.out.mono ?_
             rintro e w3 ⟨rfl, k3⟩
             have K3 := hid (K2.out.trans k3)
             have D3 := hid (R2.out.kp0 k3)
             have C3 := hid (B2.out.kp0 k3)
             have a30 := C3.out.cell 0
             have a31 := C3.out.cell 1
             have r30 := D3.out.cell 0
             have r31 := D3.out.cell 1
             have f30 : w3.frozen? ⟨w.heap.size + 1, 0, none⟩ = false := D3.out.frozen 0
             have f31 : w3.frozen? ⟨w.heap.size + 1, 1, none⟩ = false := D3.out.frozen 1
             simp only [List.getElem?_toArray, List.getElem?_cons_zero, List.getElem?_cons_succ] at a30 a31 r30 r31
             have KW := hid k3
             clear k3)
          | (go_at_call 11
             with_reducible refine (HI.out _ KW.out).mono ?_
             rintro e w4 ⟨u, rfl, o4, k4⟩
             have O4 := hid o4
             have K4 := hid (K3.out.trans k4)
             have KV := hid (KW.out.trans k4)
             have D4 := hid (D3.out.kp0 k4)
             have C4 := hid (C3.out.kp0 k4)
             have a40 := C4.out.cell 0
             have a41 := C4.out.cell 1
             have r40 := D4.out.cell 0
             have r41 := D4.out.cell 1
             have f40 : w4.frozen? ⟨w.heap.size + 1, 0, none⟩ = false := D4.out.frozen 0
             have f41 : w4.frozen? ⟨w.heap.size + 1, 1, none⟩ = false := D4.out.frozen 1
             simp only [List.getElem?_toArray, List.getElem?_cons_zero, List.getElem?_cons_succ] at a40 a41 r40 r41
             clear o4 k4)
          | (go_at_call 33
             with_reducible refine (max_any O4.out HID.out).mono ?_
             rw [HMX.out]
             rintro e w4 ⟨rfl, rfl⟩))
        have fin : ∀ W, Kp (Only (w.heap.size + 1)) w4 W → Sce W Anyb (.agg #[.slice none 0 0, .slice none 0 0]) [] [] ∧ Kp No w W := fun W k => ⟨⟨_, _, rfl, Rw.nil _ _ _ _ _, Rw.nil _ _ _ _ _⟩, K4.out.step k fun i hi e => by have e : i = w.heap.size + 1 := e; omega⟩
        refine bodyPost_ret (v := .tuple #[.agg #[.slice none 0 0, .slice none 0 0], .int .i64 6]) ?_ rfl ⟨_, rfl, fin _ ?_⟩
        · rw [results_cell2 rfl]
          go_simp
        exact ((Kp.refl (Only (w.heap.size + 1)) w4).setCell (p := ⟨w.heap.size + 1, 0, none⟩) (.inl rfl) _).setCell (p := ⟨w.heap.size + 1, 1, none⟩) (.inl rfl) _
      · rw [if_neg hbig] at hr
        subst hr
        rw [if_pos rfl, if_pos rfl]
        clear h2 hp hpt hce m1 m2 hmx
        go_enter Tryz.func15, Tryz.ntmps15
        go_upto_region 1 with fail
        clear hw1 hw2
        go_wp2_with (first
          | (go_at_call 9
             with_reducible refine HC.out.mono ?_
             rintro e w3 ⟨rfl, k3⟩
             have K3 := hid (K2.out.trans k3)
             have D3 := hid (R2.out.kp0 k3)
             have C3 := hid (B2.out.kp0 k3)
             have a30 := C3.out.cell 0
             have a31 := C3.out.cell 1
             have r30 := D3.out.cell 0
             have r31 := D3.out.cell 1
             have f30 : w3.frozen? ⟨w.heap.size + 1, 0, none⟩ = false := D3.out.frozen 0
             have f31 : w3.frozen? ⟨w.heap.size + 1, 1, none⟩ = false := D3.out.frozen 1
             simp only [List.getElem?_toArray, List.getElem?_cons_zero, List.getElem?_cons_succ] at a30 a31 r30 r31
             have KW := hid k3
             clear k3)
          | (go_at_call 11
             with_reducible refine (HI.out _ KW.out).mono ?_
             rintro e w4 ⟨u, rfl, o4, k4⟩
             have O4 := hid o4
             have K4 := hid (K3.out.trans k4)
             have KV := hid (KW.out.trans k4)
             have D4 := hid (D3.out.kp0 k4)
             have C4 := hid (C3.out.kp0 k4)
             have a40 := C4.out.cell 0
             have a41 := C4.out.cell 1
             have r40 := D4.out.cell 0
             have r41 := D4.out.cell 1
             have f40 : w4.frozen? ⟨w.heap.size + 1, 0, none⟩ = false := D4.out.frozen 0
             have f41 : w4.frozen? ⟨w.heap.size + 1, 1, none⟩ = false := D4.out.frozen 1
             simp only [List.getElem?_toArray, List.getElem?_cons_zero, List.getElem?_cons_succ] at a40 a41 r40 r41
             clear o4 k4)
          | (go_at_call 33
             with_reducible refine (max_any O4.out HID.out).mono ?_
             rw [HMX.out]
             rintro e w4 ⟨rfl, rfl⟩)
          | (go_at_call 34
             with_reducible refine (HRN.out _ KV.out).mono ?_
             rintro e w6 ⟨u6, rfl, su, k6⟩
             obtain ⟨ug, ut, rfl, rug, rut⟩ := id su
             obtain ⟨Ag, cg, rfl, _⟩ := rug
             obtain ⟨At, ct, rfl, _⟩ := rut
             obtain ⟨n6, hn6⟩ : ∃ n6, (gs.map (shG y)).length = n6 := ⟨_, rfl⟩
             obtain ⟨m6, hm6⟩ : ∃ m6, (ts.map (shT y)).length = m6 := ⟨_, rfl⟩
             rw [hn6, hm6] at su ⊢
             have SU := hid su
             have K6 := hid (K4.out.trans k6)
             have K46 := hid k6
             have D6 := D4.out.kp0 k6
             have r60 := D6.cell 0
             have r61 := D6.cell 1
             have f60 : w6.frozen? ⟨w.heap.size + 1, 0, none⟩ = false := D6.frozen 0
             have f61 : w6.frozen? ⟨w.heap.size + 1, 1, none⟩ = false := D6.frozen 1
             simp only [List.getElem?_toArray, List.getElem?_cons_zero, List.getElem?_cons_succ] at r60 r61
             clear su k6 D6 hn6 hm6))
        have fin : ∀ W, Kp (Only (w.heap.size + 1)) w6 W → Sce W Anyb (.agg #[.slice Ag n6 cg, .slice At m6 ct]) (gs.map (shG y)) (ts.map (shT y)) ∧ Kp No w W := fun W k => ⟨(SU.out.kp k fun i hi hPi e => by have e : i = w.heap.size + 1 := e; have := D4.out.lt; have hPi : w4.heap.size ≤ i := hPi; omega).any, K6.out.step k fun i hi e => by have e : i = w.heap.size + 1 := e; omega⟩
        refine bodyPost_ret (v := .tuple #[.agg #[.slice Ag n6 cg, .slice At m6 ct], .int .i64 0]) ?_ rfl ⟨_, rfl, fin _ ?_⟩
        · rw [results_cell2 rfl]
          go_simp
        exact ((Kp.refl (Only (w.heap.size + 1)) w6).setCell (p := ⟨w.heap.size + 1, 0, none⟩) (.inl rfl) _).setCell (p := ⟨w.heap.size + 1, 1, none⟩) (.inl rfl) _
    · have hcn : (ce != 0) = true := by simpa using hc0
      rw [if_pos hc0] at hr
      subst hr
      rw [if_neg hc0, if_neg hc0]
      clear h2 hp hpt hce
      go_enter Tryz.func15, Tryz.ntmps15
      go_upto_region 1 with fail
      clear hw1 hw2
      go_wp2_with (first
        | (go_at_call 9
           with_reducible refine HC.out.mono ?_
           rintro e w3 ⟨rfl, k3⟩
           have K3 := hid (K2.out.trans k3)
           have D3 := hid (R2.out.kp0 k3)
           have C3 := hid (B2.out.kp0 k3)
           have a30 := C3.out.cell 0
           have a31 := C3.out.cell 1
           have r30 := D3.out.cell 0
           have r31 := D3.out.cell 1
           have f30 : w3.frozen? ⟨w.heap.size + 1, 0, none⟩ = false := D3.out.frozen 0
           have f31 : w3.frozen? ⟨w.heap.size + 1, 1, none⟩ = false := D3.out.frozen 1
           simp only [List.getElem?_toArray, List.getElem?_cons_zero, List.getElem?_cons_succ] at a30 a31 r30 r31
           have KW := hid k3
           clear k3))
      have fin : ∀ W, Kp (Only (w.heap.size + 1)) w3 W → Sce W Anyb (.agg #[.slice none 0 0, .slice none 0 0]) [] [] ∧ Kp No w W := fun W k => ⟨⟨_, _, rfl, Rw.nil _ _ _ _ _, Rw.nil _ _ _ _ _⟩, K3.out.step k fun i hi e => by have e : i = w.heap.size + 1 := e; omega⟩
      refine bodyPost_ret (v := .tuple #[.agg #[.slice none 0 0, .slice none 0 0], .int .i64 ce]) ?_ rfl ⟨_, rfl, fin _ ?_⟩
      · rw [results_cell2 rfl]
        go_simp
      exact ((Kp.refl (Only (w.heap.size + 1)) w3).setCell (p := ⟨w.heap.size + 1, 0, none⟩) (.inl rfl) _).setCell (p := ⟨w.heap.size + 1, 1, none⟩) (.inl rfl) _
end Go.Proofs.YtomoiihckbdjdaaGreat
