/-
  Contract of image's takeScene.
-/
import Derived.Test.YtggmdgdgljlddaaGreatDoorJH
import Derived.Deep.RegionLaw
namespace Go.Proofs.YtggmdgdgljlddaaGreatDoor
open Go.RowKit Go.Shelf

/-- What takeScene tells: a scene of its own, or none. -/
def TSPost (a b c d : List Int) (w : World) (e : Ending) (w' : World) : Prop :=
  Kp No w w' ∧ ((parse a b c d = none ∧ e = .returned (.tuple #[.agg #[.slice none 0 0, .slice none 0 0], .bool false])) ∨
    (∃ gs ts vg vt, parse a b c d = some (gs, ts) ∧ e = .returned (.tuple #[.agg #[vg, vt], .bool true]) ∧ Ow w' w.heap.size 45 6 gc vg gs ∧ Ow w' w.heap.size 53 8 tc vt ts))
theorem parse_no1 {a b c d : List Int} (h : pairB a.length 9 b.length 12 = false) : parse a b c d = none := by
  unfold parse
  rw [if_neg (by rw [h]; simp)]
theorem parse_no2 {a b c d : List Int} (h : pairB c.length 27 d.length 8 = false) : parse a b c d = none := by
  unfold parse
  rw [if_neg (by rw [h]; simp)]
theorem parse_yes {a b c d : List Int} (h1 : pairB a.length 9 b.length 12 = true) (h2 : pairB c.length 27 d.length 8 = true) : parse a b c d = (tsOf (c.length / 27) c d).map fun ts => (gsOf (a.length / 9) a b, ts) := by
  unfold parse
  rw [if_pos ⟨h1, h2⟩]
theorem takegroup_is {w : World} {g1 g2 : Nat} {xs ys : List Int} {x : GS} {xs' ys' : List Int} (h : RR w w g1 g2 xs ys) (hl : 9 ≤ xs.length) (hl2 : 12 ≤ ys.length) (hx : gOf xs ys = x) (e1 : xs.drop 9 = xs') (e2 : ys.drop 12 = ys') :
    Calls Tryz.prog 63 #[.pointer (some ⟨g1, 0, none⟩), .pointer (some ⟨g2, 0, none⟩)] w fun r w' =>
    r = .returned (.agg #[.int .i64 x.id, .int .i64 x.par, .int .i64 x.wt, .int .i64 x.pd, .int .i64 x.qt, .int .i64 x.us]) ∧ RR w w' g1 g2 xs' ys' := by
  subst hx e1 e2
  exact takegroup_any h hl hl2
theorem taketask_is {w : World} {g1 g2 : Nat} {xs ys : List Int} {x : TS} {xs' ys' : List Int} {q : Bool} (h : RR w w g1 g2 xs ys) (hl : 27 ≤ xs.length) (hl2 : 8 ≤ ys.length) (hx : tOf xs ys = x) (hq : decide (aw xs ≤ 1) = q) (e1 : xs.drop 27 = xs') (e2 : ys.drop 8 = ys') :
    Calls Tryz.prog 64 #[.pointer (some ⟨g1, 0, none⟩), .pointer (some ⟨g2, 0, none⟩)] w fun r w' =>
    r = .returned (.tuple #[.agg #[.int .i64 x.id, .int .i64 x.gr, .int .i64 x.wt, .int .u64 x.co, .bool x.sl, .int .i64 x.ra, .int .i64 x.lv, .int .i64 x.lr], .bool q]) ∧ RR w w' g1 g2 xs' ys' := by
  subst hx hq e1 e2
  exact taketask_any h hl hl2
set_option maxRecDepth 100000 in
set_option maxHeartbeats 2000000 in
theorem takescene_any {w : World} {P Q R S : Nat → Prop} {va vb vc vd : Value} {a b c d : List Int} (ha : Byt w P va a) (hb : Byt w Q vb b) (hc : Byt w R vc c) (hd : Byt w S vd d) (la : a.length ≤ 100000) (lb : b.length ≤ 100000) (lc : c.length ≤ 100000) (ld : d.length ≤ 100000) :
    Calls Tryz.prog 24 #[va, vb, vc, vd] w (TSPost a b c d w) := by
  have HA := hid ha
  have HB := hid hb
  have HC := hid hc
  have HD := hid hd
  have LA := hid la
  have LB := hid lb
  have LC := hid lc
  have LD := hid ld
  obtain ⟨p1, hp1⟩ : ∃ p, pairB a.length 9 b.length 12 = p := ⟨_, rfl⟩
  obtain ⟨p2, hp2⟩ : ∃ p, pairB c.length 27 d.length 8 = p := ⟨_, rfl⟩
  have HP1 := hid hp1
  have HP2 := hid hp2
  obtain ⟨A1, c1, rfl, _⟩ := ha
  obtain ⟨A2, c2, rfl, _⟩ := hb
  obtain ⟨A3, c3, rfl, _⟩ := hc
  obtain ⟨A4, c4, rfl, _⟩ := hd
  obtain ⟨na, hna⟩ : ∃ n, a.length = n := ⟨_, rfl⟩
  obtain ⟨nb, hnb⟩ : ∃ n, b.length = n := ⟨_, rfl⟩
  obtain ⟨nc, hnc⟩ : ∃ n, c.length = n := ⟨_, rfl⟩
  obtain ⟨nd, hnd⟩ : ∃ n, d.length = n := ⟨_, rfl⟩
  have HNA := hid hna
  have HNB := hid hnb
  have HNC := hid hnc
  have HND := hid hnd
  rw [hna] at HA hp1 la ⊢
  rw [hnb] at HB hp1 ⊢
  rw [hnc] at HC hp2 lc ⊢
  rw [hnd] at HD hp2 ⊢
  have HQ1 := hid (fun (W : World) => show Calls Tryz.prog 60 #[.slice A1 na c1, .int .i64 9, .slice A2 nb c2, .int .i64 12] W (fun e w' => e = .returned (.bool p1) ∧ w' = W) from by
    rw [← hp1]
    exact paired_any (k := 9) (l := 12) (by omega) (by omega) (by omega) W)
  have HQ2 := hid (fun (W : World) => show Calls Tryz.prog 60 #[.slice A3 nc c3, .int .i64 27, .slice A4 nd c4, .int .i64 8] W (fun e w' => e = .returned (.bool p2) ∧ w' = W) from by
    rw [← hp2]
    exact paired_any (k := 27) (l := 8) (by omega) (by omega) (by omega) W)
  have k01 := (Kp.refl No w).alloc (.cells #[.slice none 0 0, .slice none 0 0] 25)
  have b01 := Blk.new w 25 #[.slice none 0 0, .slice none 0 0]
  have z01 := World.size_alloc w (.cells #[.slice none 0 0, .slice none 0 0] 25)
  clear la lb lc ld hna hnb hnc hnd hp1 hp2
  cases p1
  · -- the first two are no pair
    go_enter Tryz.func24, Tryz.ntmps24
    go_wp2_with (first
    | (go_at_call 60
       with_reducible refine (HQ1.out _).mono ?_
       rintro e w1 ⟨rfl, rfl⟩)
    | (go_at_call 60
       with_reducible refine (HQ2.out _).mono ?_
       rintro e w1 ⟨rfl, rfl⟩))
    refine bodyPost_ret (v := .tuple #[.agg #[.slice none 0 0, .slice none 0 0], .bool false]) ?_ rfl ⟨(Kp.refl No w).alloc _, .inl ⟨parse_no1 HP1.out, rfl⟩⟩
    rw [results_cell2 rfl]
    go_simp
  · cases p2
    · -- nor the others
      go_enter Tryz.func24, Tryz.ntmps24
      go_wp2_with (first
      | (go_at_call 60
         with_reducible refine (HQ1.out _).mono ?_
         rintro e w1 ⟨rfl, rfl⟩)
      | (go_at_call 60
         with_reducible refine (HQ2.out _).mono ?_
         rintro e w1 ⟨rfl, rfl⟩))
      refine bodyPost_ret (v := .tuple #[.agg #[.slice none 0 0, .slice none 0 0], .bool false]) ?_ rfl ⟨(Kp.refl No w).alloc _, .inl ⟨parse_no2 HP2.out, rfl⟩⟩
      rw [results_cell2 rfl]
      go_simp
    · obtain ⟨w1, hw1⟩ : ∃ w1, w.alloc (.cells #[.slice none 0 0, .slice none 0 0] 25) = w1 := ⟨_, rfl⟩
      rw [hw1] at k01 b01 z01
      have k12 := (Kp.refl No w1).alloc (.cells #[.slice none 0 0, .slice none 0 0] 25)
      have b12 := Blk.new w1 25 #[.slice none 0 0, .slice none 0 0]
      have z12 := World.size_alloc w1 (.cells #[.slice none 0 0, .slice none 0 0] 25)
      obtain ⟨w2, hw2⟩ : ∃ w2, w1.alloc (.cells #[.slice none 0 0, .slice none 0 0] 25) = w2 := ⟨_, rfl⟩
      rw [hw2] at k12 b12 z12
      have hq01 := hid (show w.heap.size < w1.heap.size by omega)
      have K2 := hid (k01.trans k12)
      have B0 := hid (b01.kp0 k12)
      have BQ := hid b12
      have Z2 := hid z12
      clear k01 b01 z01 k12 b12 z12
      go_enter Tryz.func24, Tryz.ntmps24
      go_upto_region 4 with (first
    | (go_at_call 60
       with_reducible refine (HQ1.out _).mono ?_
       rintro e w1 ⟨rfl, rfl⟩)
    | (go_at_call 60
       with_reducible refine (HQ2.out _).mono ?_
       rintro e w1 ⟨rfl, rfl⟩))
      clear hw1 hw2
      go_wp2_with (first
        | (go_at_call 61
           with_reducible refine (new_any _ a _ (HA.out.kp K2.out fun _ _ h => h) LA.out).mono ?_
           rintro e w3 ⟨g1, rfl, hg1, r3, k3⟩
           have R3 := hid r3
           have K3 := hid k3
           have HG1 := hid hg1
           clear hg1 r3 k3)
        | (go_at_call 61
           with_reducible refine (new_any _ b _ ((HB.out.kp K2.out fun _ _ h => h).kp K3.out fun _ _ h => h) LB.out).mono ?_
           rintro e w4 ⟨g2, rfl, hg2, r4, k4⟩
           have R4 := hid r4
           have R34 := hid (R3.out.kp k4 fun _ _ h => h)
           have K4 := hid (K3.out.trans k4)
           have HG2 := hid hg2
           clear hg2 r4 k4))
      have hs2 := Z2.out
      have hs3 := HG1.out
      have hs4 := HG2.out
      have hlt1 := R3.out.lt
      have hlt2 := R4.out.lt
      have hlt34 := R34.out.lt
      have HL1 := hid (show w.heap.size < w4.heap.size ∧ w1.heap.size < w4.heap.size ∧ w.heap.size < w1.heap.size ∧ w1.heap.size < g1 ∧ g1 < g2 ∧ g2 < w4.heap.size by have := hq01.out; have := K3.out.size; omega)
      have GI := hid (show GT 6 45 gc w4 w4 g1 g2 w1.heap.size a b (.slice none 0 0) (.slice none 0 0) (.slice none 0 0) ([] : List GS) from
        ⟨Kp.refl _ _, R34.out, R4.out, BQ.out.kp0 K4.out, Ow.nil _ _ _ _ _, by omega, by omega, by have := HL1.out; omega, by have := HL1.out; omega, by have := HL1.out; omega, by have := HL1.out; omega⟩)
      have B04 := hid (B0.out.kp0 K4.out)
      have K04 := hid (K2.out.trans K4.out)
      obtain ⟨q, hq⟩ : ∃ q, w1.heap.size = q := ⟨_, rfl⟩
      rw [hq] at GI HL1 ⊢
      have PB := (pairB_iff ..).1 HP1.out
      rw [HNA.out, HNB.out] at PB
      obtain ⟨n, hn⟩ : ∃ n, na / 9 = n := ⟨_, rfl⟩
      rw [hn] at PB
      have HNN := hid hn
      obtain ⟨pb1, pb2⟩ := PB
      have PB1 := hid pb1
      have PB2 := hid pb2
      have HGL := hid (show (gsOf n a b).length = n from gsOf_len n a b)
      clear hs2 hs3 hs4 hlt1 hlt2 hlt34 hq hn pb1 pb2 R3 R4 R34 K3 HG1 HG2 BQ B0 K2 hq01
      go_loopw [30] (fun _ wr => ∃ (k : Nat) (v : Value), k ≤ n ∧ Hid (GT 6 45 gc w4 wr g1 g2 q (a.drop (9 * k)) (b.drop (12 * k)) v (.slice none 0 0) v ((gsOf n a b).take k))) (fun _ wr => leftOf wr g1)
      case atStart => exact ⟨0, .slice none 0 0, Nat.zero_le _, GI⟩
      case round =>
        obtain ⟨k, v, hk, G⟩ := hrel
        by_cases hkn : k < n
        · have HDL := hid (show (a.drop (9 * k)).length = na - 9 * k by rw [List.length_drop, HNA.out])
          have HDL2 := hid (show (b.drop (12 * k)).length = nb - 12 * k by rw [List.length_drop, HNB.out])
          obtain ⟨L, hL⟩ : ∃ L, na - 9 * k = L := ⟨_, rfl⟩
          obtain ⟨L2, hL2⟩ : ∃ L, nb - 12 * k = L := ⟨_, rfl⟩
          rw [hL] at HDL
          rw [hL2] at HDL2
          have hpb1 := PB1.out
          have hpb2 := PB2.out
          have hL9 : 9 ≤ L := by omega
          have hL12 : 12 ≤ L2 := by omega
          have g0 : (0 : Int) < (L : Int) := by omega
          have HLA := hid (show Calls Tryz.prog 62 #[.pointer (some ⟨g1, 0, none⟩)] wr (fun e w' => e = .returned (.int .i64 (L : Int)) ∧ w' = wr) from by
            rw [← HDL.out]
            exact flp (left_any g1 _ 0 wr G.out.one))
          obtain ⟨x, hx⟩ : ∃ x, gOf (a.drop (9 * k)) (b.drop (12 * k)) = x := ⟨_, rfl⟩
          have HS := hid (gsOf_snoc (a := a) (b := b) hkn)
          rw [hx] at HS
          have hd := G.out.kp0 (Kp.refl No wr).drew
          have HTG := hid (takegroup_is hd.rr (by rw [HDL.out]; exact hL9) (by rw [HDL2.out]; exact hL12) hx (xs' := a.drop (9 * (k + 1))) (ys' := b.drop (12 * (k + 1))) (by rw [List.drop_drop]; congr 1) (by rw [List.drop_drop]; congr 1))
          have GD := hid hd
          have cq0 := hd.bx.cell 0
          simp only [List.getElem?_toArray, List.getElem?_cons_zero] at cq0
          have HLEN := hid (show ((gsOf n a b).take k).length = k by rw [List.length_take, HGL.out]; omega)
          have HV := hid (show ∀ x : Int, v ≠ Value.int .u8 x from fun x e => by
            obtain ⟨_, _, e2⟩ := hd.ow.formN HLEN.out
            rw [e2] at e
            cases e)
          have hkb : k ≤ 100000 := by have := LA.out; have := HNA.out; omega
          clear hL hL2 hpb1 hpb2 hx hd
          go_upto_region 6 with (first
            | (go_at_call 62
               with_reducible refine HLA.out.mono ?_
               rintro e w5 ⟨rfl, rfl⟩))
          go_region_law (first
            | (refine step_call (by rfl) (by go_simp) HTG.out ?_
               intro w6 r6
               have G6 := GD.out.call r6
               have c6 := G6.bx.cell 0
               have ka := (Kp.refl No w6).alloc (.cells #[.int .i64 x.id, .int .i64 x.par, .int .i64 x.wt, .int .i64 x.pd, .int .i64 x.qt, .int .i64 x.us] 45)
               have za := Blk.new w6 45 #[.int .i64 x.id, .int .i64 x.par, .int .i64 x.wt, .int .i64 x.pd, .int .i64 x.qt, .int .i64 x.us]
               have sa := World.size_alloc w6 (.cells #[.int .i64 x.id, .int .i64 x.par, .int .i64 x.wt, .int .i64 x.pd, .int .i64 x.qt, .int .i64 x.us] 45)
               have G7 := hid (G6.kp0 ka)
               have c7 := G7.out.bx.cell 0
               simp only [List.getElem?_toArray, List.getElem?_cons_zero] at c6 c7
               have ZA := hid za
               have SA := hid sa
               clear r6 G6 ka za sa)
            | (refine step_app1 usG gc_one (by rfl) (.tmp 34) (.tmp 38) (by rfl) (base := w4.heap.size) (xs := (gsOf n a b).take k) (y := x) (by rfl) (by exact G7.out.ow) (by rfl) (by
                 intro i hi
                 match i, hi with
                 | 0, _ => exact ZA.out.cell 0
                 | 1, _ => exact ZA.out.cell 1
                 | 2, _ => exact ZA.out.cell 2
                 | 3, _ => exact ZA.out.cell 3
                 | 4, _ => exact ZA.out.cell 4
                 | 5, _ => exact ZA.out.cell 5) (by rw [HLEN.out]; omega) (by rw [HLEN.out]; simp only [maxLen]; omega) (by exact G7.out.kp.size) ?_
               intro v8 w8 o8 k8 p8
               obtain ⟨A8, q8, rfl⟩ := o8.formN (m := k + 1) (by rw [List.length_append, HLEN.out]; rfl)
               rw [← HS.out] at o8
               have G8 := G7.out.app o8 k8
               have c8 := G8.bx.cell 0
               have f8 : w8.frozen? ⟨q, 0, none⟩ = false := G8.bx.frozen 0
               simp only [List.getElem?_toArray, List.getElem?_cons_zero] at c8
               have G9 := hid (G8.put0 HV.out (fun x e => by cases e) (.slice A8 (k + 1) q8))
               clear o8 k8 p8 G8))
          all_goals
            go_wp2_with fail
            go_roundw
            case rel => exact ⟨k + 1, _, by omega, G9⟩
            case measure =>
              rw [G9.out.one.leftOf, G.out.one.leftOf, List.length_drop, List.length_drop, HNA.out]
              have := PB1.out
              omega
        · have hkk : k = n := by omega
          subst hkk
          have HLA := hid (show Calls Tryz.prog 62 #[.pointer (some ⟨g1, 0, none⟩)] wr (fun e w' => e = .returned (.int .i64 0) ∧ w' = wr) from by
            have e0 : (a.drop (9 * k)).length = 0 := by rw [List.length_drop, HNA.out]; have := PB1.out; omega
            have := flp (left_any g1 _ 0 wr G.out.one)
            rw [e0] at this
            exact this)
          have g := G.out
          rw [List.take_of_length_le (by rw [HGL.out]; omega)] at g
          have G1 := hid g
          have B5 := hid (B04.out.kp g.kp (by have := HL1.out; omega))
          have K5 := hid (K04.out.step g.kp fun i hi e => by have := HL1.out; omega)
          have hz5 := g.kp.size
          obtain ⟨wa, hwa⟩ : ∃ wa, wr = wa := ⟨_, rfl⟩
          rw [hwa] at HLA G1 B5 K5 hz5 ⊢
          have HZ5 := hid hz5
          clear g G hwa hz5 GI B04 K04 hk hkn
          go_wp2_with (first
            | (go_at_call 62
               with_reducible refine HLA.out.mono ?_
               rintro e w5 ⟨rfl, rfl⟩)
            | (go_at_call 61
               with_reducible refine (new_any _ c _ (HC.out.kp K5.out fun _ _ h => h) LC.out).mono ?_
               rintro e w6 ⟨g3, rfl, hg3, r6, k6⟩
               have R6 := hid r6
               have K6 := hid k6
               have HG3 := hid hg3
               have N6 := hid (K5.out.trans k6)
               clear hg3 r6 k6)
            | (go_at_call 61
               with_reducible refine (new_any _ d _ (HD.out.kp N6.out fun _ _ h => h) LD.out).mono ?_
               rintro e w7 ⟨g4, rfl, hg4, r7, k7⟩
               have R7 := hid r7
               have R67 := hid (R6.out.kp k7 fun _ _ h => h)
               have K7 := hid (K6.out.trans k7)
               have HG4 := hid hg4
               clear hg4 r7 k7))
          have hs3 := HG3.out
          have hs4 := HG4.out
          have hlt1 := R6.out.lt
          have hlt2 := R7.out.lt
          have hlt3 := R67.out.lt
          have HL2 := hid (show w.heap.size < w7.heap.size ∧ q < w7.heap.size ∧ q < g3 ∧ g3 < g4 ∧ g4 < w7.heap.size ∧ w5.heap.size ≤ g3 by have := HL1.out; have := HZ5.out; have := K6.out.size; have := K7.out.size; omega)
          have GI := hid (show GT 8 53 tc w7 w7 g3 g4 q c d v (.slice none 0 0) (.slice none 0 0) ([] : List TS) from
            ⟨Kp.refl _ _, R67.out, R7.out, G1.out.bx.kp0 K7.out, Ow.nil _ _ _ _ _, by omega, by omega, by have := HL2.out; omega, by have := HL2.out; omega, by have := HL2.out; omega, by have := HL2.out; omega⟩)
          have OG := hid (G1.out.ow.kp0 K7.out)
          have HVB := hid (fun i (hi : v.ownBlock = some i) => show w4.heap.size ≤ i ∧ i < w5.heap.size from ⟨(G1.out.ow.blk hi).1, (G1.out.ow.blk hi).2.1⟩)
          have B7 := hid (B5.out.kp0 K7.out)
          have N7 := hid (K5.out.trans K7.out)
          have PBc := (pairB_iff ..).1 HP2.out
          rw [HNC.out, HND.out] at PBc
          obtain ⟨m, hm⟩ : ∃ m, nc / 27 = m := ⟨_, rfl⟩
          rw [hm] at PBc
          have HMM := hid hm
          obtain ⟨pb1, pb2⟩ := PBc
          have PC1 := hid pb1
          have PC2 := hid pb2
          have HPY := hid (show parse a b c d = (tsOf m c d).map fun ts => (gsOf k a b, ts) by rw [parse_yes HP1.out HP2.out, HNA.out, HNC.out, HNN.out, HMM.out])
          have HV := hid (show ∀ x : Int, v ≠ Value.int .u8 x from fun x e => by
            obtain ⟨_, _, e2⟩ := OG.out.formN rfl
            rw [e2] at e
            cases e)
          clear hs3 hs4 hlt1 hlt2 hlt3 hm pb1 pb2 R6 R7 R67 K6 K7 N6 HG3 HG4 G1 B5 K5 HLA
          go_loopw [45] (fun _ wr => ∃ (k : Nat) (u : Value) (ts : List TS), k ≤ m ∧ Hid (tsOf k c d = some ts) ∧ Hid (GT 8 53 tc w7 wr g3 g4 q (c.drop (27 * k)) (d.drop (8 * k)) v u u ts)) (fun _ wr => leftOf wr g3)
          case atStart => exact ⟨0, .slice none 0 0, [], Nat.zero_le _, rfl, GI⟩
          case round =>
            obtain ⟨k2, u, ts, hk2, HTS, G⟩ := hrel
            by_cases hkn2 : k2 < m
            · have HDL := hid (show (c.drop (27 * k2)).length = nc - 27 * k2 by rw [List.length_drop, HNC.out])
              have HDL2 := hid (show (d.drop (8 * k2)).length = nd - 8 * k2 by rw [List.length_drop, HND.out])
              obtain ⟨L, hL⟩ : ∃ L, nc - 27 * k2 = L := ⟨_, rfl⟩
              obtain ⟨L2, hL2⟩ : ∃ L, nd - 8 * k2 = L := ⟨_, rfl⟩
              rw [hL] at HDL
              rw [hL2] at HDL2
              have hpb1 := PC1.out
              have hpb2 := PC2.out
              have hL9 : 27 ≤ L := by omega
              have hL12 : 8 ≤ L2 := by omega
              have g0 : (0 : Int) < (L : Int) := by omega
              have HLA := hid (show Calls Tryz.prog 62 #[.pointer (some ⟨g3, 0, none⟩)] wr (fun e w' => e = .returned (.int .i64 (L : Int)) ∧ w' = wr) from by
                rw [← HDL.out]
                exact flp (left_any g3 _ 0 wr G.out.one))
              obtain ⟨x, hx⟩ : ∃ x, tOf (c.drop (27 * k2)) (d.drop (8 * k2)) = x := ⟨_, rfl⟩
              obtain ⟨p, hp⟩ : ∃ p, decide (aw (c.drop (27 * k2)) ≤ 1) = p := ⟨_, rfl⟩
              have HTG := hid (taketask_is G.out.rr (by rw [HDL.out]; exact hL9) (by rw [HDL2.out]; exact hL12) hx hp (xs' := c.drop (27 * (k2 + 1))) (ys' := d.drop (8 * (k2 + 1))) (by rw [List.drop_drop]; congr 1) (by rw [List.drop_drop]; congr 1))
              have HLEN := hid (show ts.length = k2 from tsOf_len k2 HTS.out)
              have HU := hid (show ∀ x : Int, u ≠ Value.int .u8 x from fun x e => by
                obtain ⟨_, _, e2⟩ := G.out.ow.formN HLEN.out
                rw [e2] at e
                cases e)
              have hkb : k2 ≤ 100000 := by have := LC.out; have := HNC.out; omega
              cases p
              · have HNO := hid (show parse a b c d = none by rw [HPY.out, tsOf_bad k2 hkn2 (of_decide_eq_false hp)]; rfl)
                clear hL hL2 hpb1 hpb2 hx hp
                go_upto_region 11 with (first
                  | (go_at_call 62
                     with_reducible refine HLA.out.mono ?_
                     rintro e w5 ⟨rfl, rfl⟩)
                  | (go_at_call 64
                     with_reducible refine HTG.out.mono ?_
                     rintro e w8 ⟨rfl, r8⟩
                     have G8 := hid (G.out.call r8)
                     clear r8))
                have k89 := (Kp.refl No w8).alloc (.cells #[.int .i64 x.id, .int .i64 x.gr, .int .i64 x.wt, .int .u64 x.co, .bool x.sl, .int .i64 x.ra, .int .i64 x.lv, .int .i64 x.lr] 53)
                have b9 := (B7.out.kp G8.out.kp (by have := HL2.out; have := HL1.out; omega)).kp0 k89
                have k9 := ((N7.out.step G8.out.kp fun i hi e => by have := HL2.out; have := HL1.out; omega).trans k89)
                obtain ⟨W, hW⟩ : ∃ W, w8.alloc (.cells #[.int .i64 x.id, .int .i64 x.gr, .int .i64 x.wt, .int .u64 x.co, .bool x.sl, .int .i64 x.ra, .int .i64 x.lv, .int .i64 x.lr] 53) = W := ⟨_, rfl⟩
                rw [hW] at b9 k9 ⊢
                have c0 := b9.cell 0
                have c1 := b9.cell 1
                have f0 := b9.frozen 0
                have f1 := b9.frozen 1
                simp only [List.getElem?_toArray, List.getElem?_cons_zero, List.getElem?_cons_succ] at c0 c1
                have B9 := hid b9
                have K9 := hid k9
                clear k89 hW b9 k9
                go_wp2_with fail
                have bf := (B9.out.put 0 (.slice none 0 0)).put 1 (.slice none 0 0)
                simp only [List.setIfInBounds_toArray, List.set_cons_zero, List.set_cons_succ] at bf
                have kf := (K9.out.setCell (p := ⟨w.heap.size, 0, none⟩) (.inr (Nat.le_refl _)) (.slice none 0 0)).setCell (p := ⟨w.heap.size, 1, none⟩) (.inr (Nat.le_refl _)) (.slice none 0 0)
                refine bodyPost_ret (v := .tuple #[.agg #[.slice none 0 0, .slice none 0 0], .bool false]) ?_ rfl ⟨kf, .inl ⟨HNO.out, rfl⟩⟩
                clear c0 c1 f0 f1 kf
                generalize (W.setCell _ _).setCell _ _ = W2 at bf ⊢
                have c0 := bf.cell 0
                have c1 := bf.cell 1
                simp only [List.getElem?_toArray, List.getElem?_cons_zero, List.getElem?_cons_succ] at c0 c1
                rw [results_cell2 rfl]
                go_simp
              · have HTN := hid (show tsOf (k2 + 1) c d = some (ts ++ [x]) by rw [← hx]; exact tsOf_snoc k2 HTS.out (of_decide_eq_true hp))
                clear hL hL2 hpb1 hpb2 hx hp
                go_upto_region 12 with (first
                  | (go_at_call 62
                     with_reducible refine HLA.out.mono ?_
                     rintro e w5 ⟨rfl, rfl⟩)
                  | (go_at_call 64
                     with_reducible refine HTG.out.mono ?_
                     rintro e w8 ⟨rfl, r8⟩
                     have G8 := hid (G.out.call r8)
                     clear r8))
                have k89 := (Kp.refl No w8).alloc (.cells #[.int .i64 x.id, .int .i64 x.gr, .int .i64 x.wt, .int .u64 x.co, .bool x.sl, .int .i64 x.ra, .int .i64 x.lv, .int .i64 x.lr] 53)
                have g9 := G8.out.kp0 k89
                have z9 := World.size_alloc w8 (.cells #[.int .i64 x.id, .int .i64 x.gr, .int .i64 x.wt, .int .u64 x.co, .bool x.sl, .int .i64 x.ra, .int .i64 x.lv, .int .i64 x.lr] 53)
                have cq1 := g9.bx.cell 1
                simp only [List.getElem?_toArray, List.getElem?_cons_zero, List.getElem?_cons_succ] at cq1
                have kb := (Kp.refl No (w8.alloc (.cells #[.int .i64 x.id, .int .i64 x.gr, .int .i64 x.wt, .int .u64 x.co, .bool x.sl, .int .i64 x.ra, .int .i64 x.lv, .int .i64 x.lr] 53))).alloc (.cells #[.int .i64 x.id, .int .i64 x.gr, .int .i64 x.wt, .int .u64 x.co, .bool x.sl, .int .i64 x.ra, .int .i64 x.lv, .int .i64 x.lr] 53)
                have GW := hid (g9.kp0 kb)
                have zb := Blk.new (w8.alloc (.cells #[.int .i64 x.id, .int .i64 x.gr, .int .i64 x.wt, .int .u64 x.co, .bool x.sl, .int .i64 x.ra, .int .i64 x.lv, .int .i64 x.lr] 53)) 53 #[.int .i64 x.id, .int .i64 x.gr, .int .i64 x.wt, .int .u64 x.co, .bool x.sl, .int .i64 x.ra, .int .i64 x.lv, .int .i64 x.lr]
                rw [z9] at zb
                have ZA := hid zb
                clear k89 g9 kb zb
                go_wp2_with (first
                  | (at_builtin
                     refine wp_app1 usT tc_one rfl (.tmp 58) (.tmp 60) rfl (base := w7.heap.size) (xs := ts) (y := x) (by exact GW.out.ow) rfl (by
                       intro i hi
                       match i, hi with
                       | 0, _ => exact ZA.out.cell 0
                       | 1, _ => exact ZA.out.cell 1
                       | 2, _ => exact ZA.out.cell 2
                       | 3, _ => exact ZA.out.cell 3
                       | 4, _ => exact ZA.out.cell 4
                       | 5, _ => exact ZA.out.cell 5
                       | 6, _ => exact ZA.out.cell 6
                       | 7, _ => exact ZA.out.cell 7) (by rw [HLEN.out]; omega) (by rw [HLEN.out]; simp only [maxLen]; omega) (by exact GW.out.kp.size) ?_
                     intro v9 w9 o9 k9 p9
                     obtain ⟨A9, q9, rfl⟩ := o9.formN (m := k2 + 1) (by rw [List.length_append, HLEN.out]; rfl)
                     have G9 := GW.out.app o9 k9
                     have c9 := G9.bx.cell 1
                     have f9 : w9.frozen? ⟨q, 1, none⟩ = false := G9.bx.frozen 1
                     simp only [List.getElem?_toArray, List.getElem?_cons_zero, List.getElem?_cons_succ] at c9
                     have GX := hid (G9.put1 HV.out HU.out (.slice A9 (k2 + 1) q9))
                     clear o9 k9 p9 G9))
                go_roundw
                case rel => exact ⟨k2 + 1, _, ts ++ [x], by omega, HTN, GX⟩
                case measure =>
                  rw [GX.out.one.leftOf, G.out.one.leftOf, List.length_drop, List.length_drop, HNC.out]
                  have := PC1.out
                  omega
            · have hkk : k2 = m := by omega
              subst hkk
              have HLA := hid (show Calls Tryz.prog 62 #[.pointer (some ⟨g3, 0, none⟩)] wr (fun e w' => e = .returned (.int .i64 0) ∧ w' = wr) from by
                have e0 : (c.drop (27 * k2)).length = 0 := by rw [List.length_drop, HNC.out]; have := PC1.out; omega
                have := flp (left_any g3 _ 0 wr G.out.one)
                rw [e0] at this
                exact this)
              obtain ⟨Av, cv, rfl⟩ := OG.out.formN HGL.out
              obtain ⟨nt, hnt⟩ : ∃ nt, ts.length = nt := ⟨_, rfl⟩
              obtain ⟨Au, cu, rfl⟩ := G.out.ow.formN hnt
              have cq0 := G.out.bx.cell 0
              have cq1 := G.out.bx.cell 1
              have b9 := B7.out.kp G.out.kp (by have := HL2.out; have := HL1.out; omega)
              have k9 := (N7.out.step G.out.kp fun i hi e => by have := HL2.out; have := HL1.out; omega)
              have c0 := b9.cell 0
              have c1 := b9.cell 1
              have f0 := b9.frozen 0
              have f1 := b9.frozen 1
              simp only [List.getElem?_toArray, List.getElem?_cons_zero, List.getElem?_cons_succ] at cq0 cq1 c0 c1
              have og := OG.out.kpx G.out.kp fun i hi e => by
                have h1 := HVB.out i hi
                have h2 := HL2.out
                have h3 := HL1.out
                omega
              have B9 := hid b9
              have K9 := hid k9
              have OG9 := hid og
              clear b9 k9 og hnt
              go_wp2_with (first
                | (go_at_call 62
                   with_reducible refine HLA.out.mono ?_
                   rintro e w8 ⟨rfl, rfl⟩))
              have bf := (B9.out.put 0 (.slice Av k cv)).put 1 (.slice Au nt cu)
              simp only [List.setIfInBounds_toArray, List.set_cons_zero, List.set_cons_succ] at bf
              have kS0 := Kp.set1 w.heap.size 0 w8 (.slice Av k cv)
              have kS := kS0.setCell (p := ⟨w.heap.size, 1, none⟩) (.inl rfl) (.slice Au nt cu)
              have kf := K9.out.step kS fun i hi e => by have e : i = w.heap.size := e; omega
              have ogf := (OG9.out.kpx kS fun i hi e => by have e : i = w.heap.size := e; have := HVB.out i hi; have := HL1.out; omega).lower (base' := w.heap.size) (by have := HL1.out; omega)
              have otf := (G.out.ow.kpx kS fun i hi e => by have e : i = w.heap.size := e; have := (G.out.ow.blk hi).1; have := HL2.out; omega).lower (base' := w.heap.size) (by have := HL2.out; omega)
              refine bodyPost_ret (v := .tuple #[.agg #[.slice Av k cv, .slice Au nt cu], .bool true]) ?_ rfl ⟨kf, .inr ⟨gsOf k a b, ts, _, _, by rw [HPY.out, HTS.out]; rfl, rfl, ogf, otf⟩⟩
              clear c0 c1 f0 f1 kf kS kS0 ogf otf
              generalize (w8.setCell _ _).setCell _ _ = W2 at bf ⊢
              have c0 := bf.cell 0
              have c1 := bf.cell 1
              simp only [List.getElem?_toArray, List.getElem?_cons_zero, List.getElem?_cons_succ] at c0 c1
              rw [results_cell2 rfl]
              go_simp
end Go.Proofs.YtggmdgdgljlddaaGreatDoor
