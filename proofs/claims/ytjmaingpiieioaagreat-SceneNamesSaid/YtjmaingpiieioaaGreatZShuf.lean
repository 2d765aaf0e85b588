/-
  Contract of the law's shuffled.
-/
import Derived.Test.YtjmaingpiieioaaGreatZLost
namespace Go.Proofs.YtjmaingpiieioaaGreat
open Go.RowKit Go.Shelf

def ixG (n b i : Nat) : Nat := if i = 0 then 0 else 1 + (i - 1 + b) % (n - 1)
def outG (gs : List GS) (b k : Nat) : List GS := (List.range k).map fun i => gs.getD (ixG gs.length b i) gs0
def outT (ts : List TS) (b k : Nat) : List TS := (List.range k).map fun i => ts.getD ((i + b) % ts.length) ts0
theorem outG_succ (gs : List GS) (b k : Nat) : outG gs b (k + 1) = outG gs b k ++ [gs.getD (ixG gs.length b k) gs0] := by
  unfold outG
  rw [List.range_succ, List.map_append]
  rfl
theorem outT_succ (ts : List TS) (b k : Nat) : outT ts b (k + 1) = outT ts b k ++ [ts.getD ((k + b) % ts.length) ts0] := by
  unfold outT
  rw [List.range_succ, List.map_append]
  rfl
theorem outG_len (gs : List GS) (b k : Nat) : (outG gs b k).length = k := by simp [outG]
theorem outT_len (ts : List TS) (b k : Nat) : (outT ts b k).length = k := by simp [outT]
/-- What is gathered so far, groups and then tasks. -/
structure SI (w3 : World) (ob : Nat) (l : List GS) (sv : Value) (W : World) : Prop where
  kp : Kp (Only ob) w3 W
  bx : Blk W ob 25 #[sv, .slice none 0 0]
  ow : Ow W w3.heap.size 51 6 gc sv l
structure SJ (w3 : World) (ob : Nat) (ug : Value) (l : List TS) (sv : Value) (W : World) : Prop where
  kp : Kp (Only ob) w3 W
  bx : Blk W ob 25 #[ug, sv]
  ow : Ow W w3.heap.size 46 8 tc sv l
theorem Rw.any {α : Type} {n : Nat} {f : α → Nat → Value} {d : α} {w : World} {P : Nat → Prop} {v : Value} {xs : List α} (h : Rw n f d w P v xs) : Rw n f d w Anyb v xs := by
  obtain ⟨A, c, rfl, h1, h2, h3⟩ := h
  refine ⟨A, c, rfl, h1, h2, fun h0 => ?_⟩
  obtain ⟨b, o, rfl, g1, _, g3⟩ := h3 h0
  exact ⟨b, o, rfl, g1, trivial, g3⟩
set_option maxRecDepth 100000 in
set_option maxHeartbeats 4000000 in
theorem shuffled_any {w : World} {P : Nat → Prop} {v : Value} {gs : List GS} {ts : List TS} (h : Sn w P v gs ts) (hl : gs.length ≤ 1000000) (hlt : ts.length ≤ 1000000) (by' : Int) (hby : 0 ≤ by' ∧ by' < 256) :
    Calls Tryz.prog 24 #[v, .int .u8 by'] w fun e w' => ∃ u, e = .returned u ∧ Sn w' Anyb u (outG gs by'.toNat gs.length) (outT ts by'.toNat ts.length) ∧ Kp No w w' := by
  obtain ⟨vg, vt, rfl, hg, ht⟩ := h
  have hg := hg.old
  have ht := ht.old
  obtain ⟨b, rfl⟩ : ∃ b : Nat, by' = (b : Int) := ⟨by'.toNat, by omega⟩
  have hb256 : b < 256 := by omega
  rw [Int.toNat_natCast]
  have k1 := (Kp.refl No w).alloc (.cells #[vg, vt] 25)
  have b1 := Blk.new w 25 #[vg, vt]
  have z1 := World.size_alloc w (.cells #[vg, vt] 25)
  obtain ⟨w1, hw1⟩ : ∃ w1, w.alloc (.cells #[vg, vt] 25) = w1 := ⟨_, rfl⟩
  have k2 := (Kp.refl No w1).alloc (.cells #[.slice none 0 0, .slice none 0 0] 25)
  have b2 := Blk.new w1 25 #[.slice none 0 0, .slice none 0 0]
  have z2 := World.size_alloc w1 (.cells #[.slice none 0 0, .slice none 0 0] 25)
  rw [hw1] at k1 b1 z1
  rw [z1] at b2 z2
  obtain ⟨w2, hw2⟩ : ∃ w2, w1.alloc (.cells #[.slice none 0 0, .slice none 0 0] 25) = w2 := ⟨_, rfl⟩
  rw [hw2] at k2 b2 z2
  have k3 := (Kp.refl No w2).alloc (.cells #[.slice none 0 0, .slice none 0 0] 25)
  have b3 := Blk.new w2 25 #[.slice none 0 0, .slice none 0 0]
  have z3 := World.size_alloc w2 (.cells #[.slice none 0 0, .slice none 0 0] 25)
  rw [z2] at b3 z3
  obtain ⟨w3, hw3⟩ : ∃ w3, w2.alloc (.cells #[.slice none 0 0, .slice none 0 0] 25) = w3 := ⟨_, rfl⟩
  rw [hw3] at k3 b3 z3
  have K3 := hid ((k1.trans k2).trans k3)
  have B1 := hid ((b1.kp0 k2).kp0 k3)
  have B2 := hid (b2.kp0 k3)
  have B3 := hid b3
  have HG := hid (((hg.kp0 k1).kp0 k2).kp0 k3)
  have HT := hid (((ht.kp0 k1).kp0 k2).kp0 k3)
  obtain ⟨A, c, rfl, _⟩ := hg
  obtain ⟨A2, c2, rfl, _⟩ := ht
  obtain ⟨n, hn⟩ : ∃ n, gs.length = n := ⟨_, rfl⟩
  obtain ⟨m, hm⟩ : ∃ m, ts.length = m := ⟨_, rfl⟩
  rw [hn] at HG hl b1 B1 hw1 ⊢
  rw [hm] at HT hlt B1 hw1 b1 ⊢
  have HN := hid hn
  have HM := hid hm
  have Z3 := hid z3
  have s0 := B1.out.cell 0
  simp only [List.getElem?_toArray, List.getElem?_cons_zero] at s0
  clear k1 k2 k3 b1 b2 b3 hn hm hby
  go_enter Tryz.func24, Tryz.ntmps24
  go_upto_region 3 with fail
  clear hw1 hw2 hw3
  go_loopw [6] (fun i wr => ∃ k : Nat, k ≤ n ∧ i = .int .i64 (k : Int) ∧ Hid (∃ sv, SI w3 (w.heap.size + 1 + 1) (outG gs b k) sv wr)) (fun i _ => n - (vI i).toNat)
  case atStart => exact ⟨0, Nat.zero_le _, rfl, hid ⟨_, Kp.refl _ _, B3.out, Ow.nil _ _ _ _ _⟩⟩
  case round =>
    obtain ⟨k, hk, rfl, HS⟩ := hrel
    obtain ⟨sv, hs⟩ := HS.out
    have S := hid hs
    have KW := hid hs.kp
    have zw := hs.kp.size
    have Bw := B1.out.kp hs.kp (by show ¬ w.heap.size = w.heap.size + 1 + 1; omega)
    have s0 := Bw.cell 0
    have s1 := Bw.cell 1
    have o0 := hs.bx.cell 0
    have o1 := hs.bx.cell 1
    simp only [List.getElem?_toArray, List.getElem?_cons_zero, List.getElem?_cons_succ] at s0 s1 o0 o1
    obtain ⟨M, hM⟩ : ∃ M, (outG gs b k).length = M := ⟨_, rfl⟩
    obtain ⟨As, cs, rfl⟩ := hs.ow.formN hM
    have hMk : M = k := by rw [← hM, outG_len]
    subst hMk
    have BW := hid Bw
    clear Bw hs HS hM
    by_cases hkn : M < n
    · have hixl : ixG n b M < n := by
        unfold ixG
        split
        · omega
        · have := Nat.mod_lt (M - 1 + b) (show 0 < n - 1 by omega)
          omega
      have hxl : ixG n b M < gs.length := by rw [HN.out]; exact hixl
      have Ov := HG.out.kp KW.out (fun i hi hPi e => by have e : i = w.heap.size + 1 + 1 := e; have hPi : i < w.heap.size := hPi; omega)
      obtain ⟨bb, off, rfl⟩ := Ov.there (by omega)
      have q0 := Ov.cell (j := ixG n b M) (i := 0) (Kp.refl No _) hxl (by omega) rfl
      have q1 := Ov.cell (j := ixG n b M) (i := 1) (Kp.refl No _) hxl (by omega) rfl
      have q2 := Ov.cell (j := ixG n b M) (i := 2) (Kp.refl No _) hxl (by omega) rfl
      have q3 := Ov.cell (j := ixG n b M) (i := 3) (Kp.refl No _) hxl (by omega) rfl
      have q4 := Ov.cell (j := ixG n b M) (i := 4) (Kp.refl No _) hxl (by omega) rfl
      have q5 := Ov.cell (j := ixG n b M) (i := 5) (Kp.refl No _) hxl (by omega) rfl
      have HE := hid (outG_succ gs b M)
      rw [HN.out] at HE
      obtain ⟨j, hj⟩ : ∃ j, ixG n b M = j := ⟨_, rfl⟩
      rw [hj] at q0 q1 q2 q3 q4 q5 HE hixl
      obtain ⟨x, hx⟩ : ∃ x, gs.getD j gs0 = x := ⟨_, rfl⟩
      rw [hx] at q0 q1 q2 q3 q4 q5 HE
      simp only [gc, ge, List.getD_cons_zero, List.getD_cons_succ, Nat.add_zero] at q0 q1 q2 q3 q4 q5
      simp only [← Nat.add_assoc] at q1 q2 q3 q4 q5
      have hg1 : (M : Int) < (n : Int) := by omega
      have hwk := wrapI (x := (M : Int) + 1) (by unfold I64; omega)
      have k12 := ((Kp.refl No wr).alloc (.cells #[.int .i64 x.id, .int .i64 x.par, .int .i64 x.wt, .int .i64 x.pd, .int .i64 x.qt, .int .i64 x.us] 51)).drew
      have Z2 := hid ((Blk.new wr 51 #[.int .i64 x.id, .int .i64 x.par, .int .i64 x.wt, .int .i64 x.pd, .int .i64 x.qt, .int .i64 x.us]).kp0 (Kp.refl No _).drew)
      have OZ := hid (S.out.ow.kp0 k12)
      have BZ := hid (S.out.bx.kp0 k12)
      have KZ := hid k12
      have oz0 := (S.out.bx.kp0 ((Kp.refl No wr).alloc (.cells #[.int .i64 x.id, .int .i64 x.par, .int .i64 x.wt, .int .i64 x.pd, .int .i64 x.qt, .int .i64 x.us] 51))).cell 0
      simp only [List.getElem?_toArray, List.getElem?_cons_zero] at oz0
      have hsz2 := World.size_alloc wr (.cells #[.int .i64 x.id, .int .i64 x.par, .int .i64 x.wt, .int .i64 x.pd, .int .i64 x.qt, .int .i64 x.us] 51)
      clear Ov hx hxl k12
      by_cases hk0 : M = 0
      · have hj0 : j = 0 := by rw [← hj]; unfold ixG; rw [if_pos hk0]
        subst hj0
        clear hj
        simp only [Nat.zero_mul, Nat.add_zero] at q0 q1 q2 q3 q4 q5
        have hgt : ¬ (0 : Int) < (M : Int) := by omega
        subst hk0
        go_upto_region 8 with fail
        go_region_law (first
          | (refine step_app1 usG gc_one (by rfl) (.tmp 31) (.tmp 37) (by rfl) (base := w3.heap.size) (xs := outG gs b 0) (y := x) (by rfl) (by exact OZ.out) (by rfl) (by
               intro i hi
               match i, hi with
               | 0, _ => exact Z2.out.cell 0
               | 1, _ => exact Z2.out.cell 1
               | 2, _ => exact Z2.out.cell 2
               | 3, _ => exact Z2.out.cell 3
               | 4, _ => exact Z2.out.cell 4
               | 5, _ => exact Z2.out.cell 5) (by rw [outG_len]; omega) (by rw [outG_len]; simp only [maxLen]; omega) (by exact Nat.le_trans KW.out.size KZ.out.size) ?_
             intro v7 w7 o7 k7 p7
             obtain ⟨A7, c7, rfl⟩ := o7.formN (m := 0 + 1) (by rw [List.length_append, outG_len]; rfl)
             have kA := (Kp.refl (fun i => (Value.slice As 0 cs).ownBlock = some i) _).grown k7 fun k hk => .inl hk
             have hne : (Value.slice As 0 cs).ownBlock ≠ some (w.heap.size + 1 + 1) := fun e => by have := (S.out.ow.blk e).1; have := Z3.out; omega
             have hne7 : (Value.slice A7 (0 + 1) c7).ownBlock ≠ some (w.heap.size + 1 + 1) := fun e => by have := (o7.blk e).1; have := Z3.out; omega
             have b7 := BZ.out.kp kA hne
             have f70 : w7.frozen? ⟨w.heap.size + 1 + 1, 0, none⟩ = false := b7.frozen 0
             have c70 := b7.cell 0
             simp only [List.getElem?_toArray, List.getElem?_cons_zero] at c70
             have kS := Kp.set1 (w.heap.size + 1 + 1) 0 w7 (.slice A7 (0 + 1) c7)
             have b8 := b7.put 0 (.slice A7 (0 + 1) c7)
             simp only [List.setIfInBounds_toArray, List.set_cons_zero] at b8
             have S9 := hid (show ∃ sv, SI w3 (w.heap.size + 1 + 1) (outG gs b (0 + 1)) sv (w7.setCell ⟨w.heap.size + 1 + 1, 0, none⟩ (.slice A7 (0 + 1) c7)) from ⟨_, ⟨((KW.out.step KZ.out fun i _ e => e.elim).step kA fun i hi e => by have := (S.out.ow.blk e).1; omega).step kS fun i _ e => e, b8, by rw [HE.out]; exact o7.kpx kS fun i hi e => hne7 (by rw [hi]; exact congrArg some e)⟩⟩)
             clear o7 k7 p7 kA b7 b8 kS))
        all_goals
          go_wp2_with fail
          go_roundw
          case rel => exact ⟨0 + 1, by omega, by go_num, S9⟩
          case measure => simp [vI]; omega
      · obtain ⟨p, hp⟩ : ∃ p, M = p + 1 := ⟨M - 1, by omega⟩
        obtain ⟨n1, hn1⟩ : ∃ n1, n = n1 + 1 := ⟨n - 1, by omega⟩
        have hj1 : j = 1 + (p + b) % n1 := by
          rw [← hj]
          unfold ixG
          rw [if_neg hk0, hp, hn1]
          rfl
        obtain ⟨d, hd⟩ : ∃ d, (p + b) % n1 = d := ⟨_, rfl⟩
        rw [hd] at hj1
        have hgt : (0 : Int) < (M : Int) := by omega
        have hs1 : (M : Int) - 1 = (p : Int) := by omega
        have hs2 : (n : Int) - 1 = (n1 : Int) := by omega
        have hs3 : ((p : Int) + (b : Int)).tmod (n1 : Int) = (d : Int) := by rw [← hd]; rfl
        have hs4 : 1 + (d : Int) = (j : Int) := by omega
        have hs5 : (n1 : Int) ≠ 0 := by omega
        have hwp := wrapI (x := (p : Int)) (by unfold I64; omega)
        have hwn := wrapI (x := (n1 : Int)) (by unfold I64; omega)
        have hwpb := wrapI (x := (p : Int) + (b : Int)) (by unfold I64; omega)
        have hwd := wrapI (x := (d : Int)) (by unfold I64; omega)
        have hwj := wrapI (x := (j : Int)) (by unfold I64; omega)
        have hwb : IntKind.i64.wrap (b : Int) = (b : Int) := wrapI (by unfold I64; omega)
        clear hj1 hd hj hp hn1
        go_upto_region 8 with fail
        clear hs1 hs2 hs3 hs4
        go_region_law (first
          | (refine step_app1 usG gc_one (by rfl) (.tmp 31) (.tmp 37) (by rfl) (base := w3.heap.size) (xs := outG gs b M) (y := x) (by rfl) (by exact OZ.out) (by rfl) (by
               intro i hi
               match i, hi with
               | 0, _ => exact Z2.out.cell 0
               | 1, _ => exact Z2.out.cell 1
               | 2, _ => exact Z2.out.cell 2
               | 3, _ => exact Z2.out.cell 3
               | 4, _ => exact Z2.out.cell 4
               | 5, _ => exact Z2.out.cell 5) (by rw [outG_len]; omega) (by rw [outG_len]; simp only [maxLen]; omega) (by exact Nat.le_trans KW.out.size KZ.out.size) ?_
             intro v7 w7 o7 k7 p7
             obtain ⟨A7, c7, rfl⟩ := o7.formN (m := M + 1) (by rw [List.length_append, outG_len]; rfl)
             have kA := (Kp.refl (fun i => (Value.slice As M cs).ownBlock = some i) _).grown k7 fun k hk => .inl hk
             have hne : (Value.slice As M cs).ownBlock ≠ some (w.heap.size + 1 + 1) := fun e => by have := (S.out.ow.blk e).1; have := Z3.out; omega
             have hne7 : (Value.slice A7 (M + 1) c7).ownBlock ≠ some (w.heap.size + 1 + 1) := fun e => by have := (o7.blk e).1; have := Z3.out; omega
             have b7 := BZ.out.kp kA hne
             have f70 : w7.frozen? ⟨w.heap.size + 1 + 1, 0, none⟩ = false := b7.frozen 0
             have c70 := b7.cell 0
             simp only [List.getElem?_toArray, List.getElem?_cons_zero] at c70
             have kS := Kp.set1 (w.heap.size + 1 + 1) 0 w7 (.slice A7 (M + 1) c7)
             have b8 := b7.put 0 (.slice A7 (M + 1) c7)
             simp only [List.setIfInBounds_toArray, List.set_cons_zero] at b8
             have S9 := hid (show ∃ sv, SI w3 (w.heap.size + 1 + 1) (outG gs b (M + 1)) sv (w7.setCell ⟨w.heap.size + 1 + 1, 0, none⟩ (.slice A7 (M + 1) c7)) from ⟨_, ⟨((KW.out.step KZ.out fun i _ e => e.elim).step kA fun i hi e => by have := (S.out.ow.blk e).1; omega).step kS fun i _ e => e, b8, by rw [HE.out]; exact o7.kpx kS fun i hi e => hne7 (by rw [hi]; exact congrArg some e)⟩⟩)
             clear o7 k7 p7 kA b7 b8 kS))
        all_goals
          go_wp2_with fail
          go_roundw
          case rel => exact ⟨M + 1, by omega, by go_num, S9⟩
          case measure => simp [vI]; omega
    · have hkk : M = n := by omega
      subst hkk
      have hng : ¬ (M : Int) < (M : Int) := by omega
      obtain ⟨wL, hwL⟩ : ∃ wL, wL = wr := ⟨_, rfl⟩
      subst hwL
      have BWL := BW
      have HTL := hid (HT.out.kp KW.out (fun i hi hPi e => by have e : i = w.heap.size + 1 + 1 := e; have hPi : i < w.heap.size := hPi; omega))
      have RL := hid (B2.out.kp KW.out (by show ¬ w.heap.size + 1 = w.heap.size + 1 + 1; omega))
      have KL := hid (K3.out.step KW.out fun i hi e => by have e : i = w.heap.size + 1 + 1 := e; omega)
      have hne := hid (show (Value.slice As M cs).ownBlock ≠ some (w.heap.size + 1 + 1) from fun e => by have := (S.out.ow.blk e).1; have := Z3.out; omega)
      have zL : w3.heap.size ≤ wL.heap.size := zw
      clear BW HG
      go_wp2_with fail
      go_loopw [8] (fun i wr => ∃ k : Nat, k ≤ m ∧ i = .int .i64 (k : Int) ∧ Hid (∃ sv, SJ wL (w.heap.size + 1 + 1) (.slice As M cs) (outT ts b k) sv wr)) (fun i _ => m - (vI i).toNat)
      case atStart => exact ⟨0, Nat.zero_le _, rfl, hid ⟨_, Kp.refl _ _, S.out.bx, Ow.nil _ _ _ _ _⟩⟩
      case round =>
        obtain ⟨k, hk2, rfl, HS⟩ := hrel
        obtain ⟨sv, hs⟩ := HS.out
        have T := hid hs
        have KW2 := hid hs.kp
        have zw2 := hs.kp.size
        have Bw := BWL.out.kp hs.kp (by show ¬ w.heap.size = w.heap.size + 1 + 1; omega)
        have s0 := Bw.cell 0
        have s1 := Bw.cell 1
        have o0 := hs.bx.cell 0
        have o1 := hs.bx.cell 1
        simp only [List.getElem?_toArray, List.getElem?_cons_zero, List.getElem?_cons_succ] at s0 s1 o0 o1
        obtain ⟨N, hN⟩ : ∃ N, (outT ts b k).length = N := ⟨_, rfl⟩
        obtain ⟨At, ct, rfl⟩ := hs.ow.formN hN
        have hNk : N = k := by rw [← hN, outT_len]
        subst hNk
        clear Bw hs HS hN
        by_cases hkn2 : N < m
        · have hixl : (N + b) % m < m := Nat.mod_lt _ (by omega)
          have hxl : (N + b) % m < ts.length := by rw [HM.out]; exact hixl
          have Ov := HTL.out.kp KW2.out (fun i hi hPi e => by have e : i = w.heap.size + 1 + 1 := e; have hPi : i < w.heap.size := hPi; omega)
          obtain ⟨bt, off2, rfl⟩ := Ov.there (by omega)
          have q0 := Ov.cell (j := (N + b) % m) (i := 0) (Kp.refl No _) hxl (by omega) rfl
          have q1 := Ov.cell (j := (N + b) % m) (i := 1) (Kp.refl No _) hxl (by omega) rfl
          have q2 := Ov.cell (j := (N + b) % m) (i := 2) (Kp.refl No _) hxl (by omega) rfl
          have q3 := Ov.cell (j := (N + b) % m) (i := 3) (Kp.refl No _) hxl (by omega) rfl
          have q4 := Ov.cell (j := (N + b) % m) (i := 4) (Kp.refl No _) hxl (by omega) rfl
          have q5 := Ov.cell (j := (N + b) % m) (i := 5) (Kp.refl No _) hxl (by omega) rfl
          have q6 := Ov.cell (j := (N + b) % m) (i := 6) (Kp.refl No _) hxl (by omega) rfl
          have q7 := Ov.cell (j := (N + b) % m) (i := 7) (Kp.refl No _) hxl (by omega) rfl
          have HE := hid (outT_succ ts b N)
          rw [HM.out] at HE
          obtain ⟨j, hj⟩ : ∃ j, (N + b) % m = j := ⟨_, rfl⟩
          rw [hj] at q0 q1 q2 q3 q4 q5 q6 q7 HE hixl
          obtain ⟨x, hx⟩ : ∃ x, ts.getD j ts0 = x := ⟨_, rfl⟩
          rw [hx] at q0 q1 q2 q3 q4 q5 q6 q7 HE
          simp only [tc, te, List.getD_cons_zero, List.getD_cons_succ, Nat.add_zero] at q0 q1 q2 q3 q4 q5 q6 q7
          simp only [← Nat.add_assoc] at q1 q2 q3 q4 q5 q6 q7
          have hg1 : (N : Int) < (m : Int) := by omega
          have hwk := wrapI (x := (N : Int) + 1) (by unfold I64; omega)
          have k12 := ((Kp.refl No wr).alloc (.cells #[.int .i64 x.id, .int .i64 x.gr, .int .i64 x.wt, .int .u64 x.co, .bool x.sl, .int .i64 x.ra, .int .i64 x.lv, .int .i64 x.lr] 46)).drew
          have Z2 := hid ((Blk.new wr 46 #[.int .i64 x.id, .int .i64 x.gr, .int .i64 x.wt, .int .u64 x.co, .bool x.sl, .int .i64 x.ra, .int .i64 x.lv, .int .i64 x.lr]).kp0 (Kp.refl No _).drew)
          have OZ := hid (T.out.ow.kp0 k12)
          have BZ := hid (T.out.bx.kp0 k12)
          have KZ := hid k12
          have oz1 := (T.out.bx.kp0 ((Kp.refl No wr).alloc (.cells #[.int .i64 x.id, .int .i64 x.gr, .int .i64 x.wt, .int .u64 x.co, .bool x.sl, .int .i64 x.ra, .int .i64 x.lv, .int .i64 x.lr] 46))).cell 1
          have bz0 := ((BWL.out.kp KW2.out (by show ¬ w.heap.size = w.heap.size + 1 + 1; omega)).kp0 ((Kp.refl No wr).alloc (.cells #[.int .i64 x.id, .int .i64 x.gr, .int .i64 x.wt, .int .u64 x.co, .bool x.sl, .int .i64 x.ra, .int .i64 x.lv, .int .i64 x.lr] 46))).cell 1
          simp only [List.getElem?_toArray, List.getElem?_cons_zero, List.getElem?_cons_succ] at oz1 bz0
          have hsz2 := World.size_alloc wr (.cells #[.int .i64 x.id, .int .i64 x.gr, .int .i64 x.wt, .int .u64 x.co, .bool x.sl, .int .i64 x.ra, .int .i64 x.lv, .int .i64 x.lr] 46)
          have hs3 : ((N : Int) + (b : Int)).tmod (m : Int) = (j : Int) := by rw [← hj]; rfl
          have hs5 : m ≠ 0 := by omega
          have hwpb := wrapI (x := (N : Int) + (b : Int)) (by unfold I64; omega)
          have hwj := wrapI (x := (j : Int)) (by unfold I64; omega)
          have hwb : IntKind.i64.wrap (b : Int) = (b : Int) := wrapI (by unfold I64; omega)
          clear Ov hx hxl k12 hj
          go_upto_region 12 with fail
          go_region_law (first
            | (refine step_app1 usT tc_one (by rfl) (.tmp 48) (.tmp 61) (by rfl) (base := wL.heap.size) (xs := outT ts b N) (y := x) (by rfl) (by exact OZ.out) (by rfl) (by
                 intro i hi
                 match i, hi with
                 | 0, _ => exact Z2.out.cell 0
                 | 1, _ => exact Z2.out.cell 1
                 | 2, _ => exact Z2.out.cell 2
                 | 3, _ => exact Z2.out.cell 3
                 | 4, _ => exact Z2.out.cell 4
                 | 5, _ => exact Z2.out.cell 5
                 | 6, _ => exact Z2.out.cell 6
                 | 7, _ => exact Z2.out.cell 7) (by rw [outT_len]; omega) (by rw [outT_len]; simp only [maxLen]; omega) (by exact Nat.le_trans KW2.out.size KZ.out.size) ?_
               intro v7 w7 o7 k7 p7
               obtain ⟨A7, c7, rfl⟩ := o7.formN (m := N + 1) (by rw [List.length_append, outT_len]; rfl)
               have kA := (Kp.refl (fun i => (Value.slice At N ct).ownBlock = some i) _).grown k7 fun k hk => .inl hk
               have hne6 : (Value.slice At N ct).ownBlock ≠ some (w.heap.size + 1 + 1) := fun e => by have := (T.out.ow.blk e).1; have := Z3.out; omega
               have hne7 : (Value.slice A7 (N + 1) c7).ownBlock ≠ some (w.heap.size + 1 + 1) := fun e => by have := (o7.blk e).1; have := Z3.out; omega
               have b7 := BZ.out.kp kA hne6
               have f71 : w7.frozen? ⟨w.heap.size + 1 + 1, 1, none⟩ = false := b7.frozen 1
               have c71 := b7.cell 1
               simp only [List.getElem?_toArray, List.getElem?_cons_zero, List.getElem?_cons_succ] at c71
               have kS := Kp.set1 (w.heap.size + 1 + 1) 1 w7 (.slice A7 (N + 1) c7)
               have b8 := b7.put 1 (.slice A7 (N + 1) c7)
               simp only [List.setIfInBounds_toArray, List.set_cons_zero, List.set_cons_succ] at b8
               have S9 := hid (show ∃ sv, SJ wL (w.heap.size + 1 + 1) (.slice As M cs) (outT ts b (N + 1)) sv (w7.setCell ⟨w.heap.size + 1 + 1, 1, none⟩ (.slice A7 (N + 1) c7)) from ⟨_, ⟨((KW2.out.step KZ.out fun i _ e => e.elim).step kA fun i hi e => by have := (T.out.ow.blk e).1; omega).step kS fun i _ e => e, b8, by rw [HE.out]; exact o7.kpx kS fun i hi e => hne7 (by rw [hi]; exact congrArg some e)⟩⟩)
               clear o7 k7 p7 kA b7 b8 kS))
          all_goals
            go_wp2_with fail
            go_roundw
            case rel => exact ⟨N + 1, by omega, by go_num, S9⟩
            case measure => simp [vI]; omega
        · have hkk : N = m := by omega
          subst hkk
          have hng2 : ¬ (N : Int) < (N : Int) := by omega
          have RW := RL.out.kp KW2.out (by show ¬ w.heap.size + 1 = w.heap.size + 1 + 1; omega)
          have r0 := RW.cell 0
          have r1 := RW.cell 1
          have f0 : wr.frozen? ⟨w.heap.size + 1, 0, none⟩ = false := RW.frozen 0
          have f1 : wr.frozen? ⟨w.heap.size + 1, 1, none⟩ = false := RW.frozen 1
          simp only [List.getElem?_toArray, List.getElem?_cons_zero, List.getElem?_cons_succ] at r0 r1
          have hnt := hid (show (Value.slice At N ct).ownBlock ≠ some (w.heap.size + 1) from fun e => by have := (T.out.ow.blk e).1; have := Z3.out; omega)
          have hng1 := hid (show (Value.slice As M cs).ownBlock ≠ some (w.heap.size + 1) from fun e => by have := (S.out.ow.blk e).1; have := Z3.out; omega)
          have OGr := hid (S.out.ow.kpx KW2.out fun i hi e => hne.out (by rw [hi]; exact congrArg some e))
          go_wp2
          have fin : ∀ W, Kp (Only (w.heap.size + 1)) wr W → Sn W Anyb (.agg #[.slice As M cs, .slice At N ct]) (outG gs b M) (outT ts b N) ∧ Kp No w W := fun W k => by
            refine ⟨⟨_, _, rfl, ((OGr.out.kpx k fun i hi e => hng1.out (by rw [hi]; exact congrArg some e)).rwp).any, ((T.out.ow.kpx k fun i hi e => hnt.out (by rw [hi]; exact congrArg some e)).rwp).any⟩, ?_⟩
            exact (KL.out.step KW2.out fun i hi e => by have e : i = w.heap.size + 1 + 1 := e; omega).step k fun i hi e => by have e : i = w.heap.size + 1 := e; omega
          refine bodyPost_ret (v := .agg #[.slice As M cs, .slice At N ct]) ?_ rfl ⟨_, rfl, fin _ ?_⟩
          · rw [results_cell rfl]
            go_simp
          exact ((Kp.refl (Only (w.heap.size + 1)) wr).setCell (p := ⟨w.heap.size + 1, 0, none⟩) (.inl rfl) _).setCell (p := ⟨w.heap.size + 1, 1, none⟩) (.inl rfl) _
end Go.Proofs.YtjmaingpiieioaaGreat
