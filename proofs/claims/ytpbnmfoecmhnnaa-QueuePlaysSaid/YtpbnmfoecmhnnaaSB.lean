/-
  Contract: level.
-/
import Derived.Test.YtpbnmfoecmhnnaaSA
import Derived.LoopN
namespace Go.Proofs.Ytpbnmfoecmhnnaa
open Go.RowKit

section
variable {w w' : World} {g b c n top : Nat} {nd nd' : Nat → Nd} {S : Nat → Prop}

/-- What level leaves, of the nodes and of the tree. -/
structure Lvl (nd nd' : Nat → Nd) (p : Nat) (l r t : BT) : Prop where
  tr : Tr nd' t
  pls : t.pls = (BT.node p l r).pls
  lev : Lev l r t
  same : ∀ q, q ∉ (BT.node p l r).pls → nd' q = nd q
  item : ∀ q, (nd' q).it = (nd q).it
theorem Tr.ext2 {nd nd' : Nat → Nd} {t : BT} (h : Tr nd t) (e : ∀ p ∈ t.pls, nd' p = nd p) : Tr nd' t := h.ext fun p hp => by rw [e p hp]; exact Shp.refl _
theorem cnt_it (nd : Nat → Nd) (p : Nat) (l r : BT) (q : Nat) : (cnt nd p l r q).it = (nd q).it := by
  unfold cnt upd
  by_cases h : q = p <;> simp [h]

theorem level_no (h : Sh w g b c n nd top) (p : Nat) {l r : BT} (hlo : (nd p).lo = l.root) (hhi : (nd p).hi = r.root) (hl : Tr nd l) (hr : Tr nd r) (hn : (BT.node p l r).pls.Nodup) (hi : In n (BT.node p l r).pls)
    (h1 : l.ht ≤ r.ht + 1) (h2 : r.ht ≤ l.ht + 1) :
    Calls Try.prog 82 #[.pointer (some ⟨g, 0, none⟩), .int .i64 (p : Int)] w fun e w' => e = .returned (.int .i64 (p : Int)) ∧ Kp (Only b) w w' ∧ ∃ nd', Sh w' g b c n nd' top ∧ Lvl nd nd' p l r (.node p l r) := by
  obtain ⟨p1, p2⟩ := hi.p
  have il := hi.l
  have ir := hi.r
  have hN := nod_iff.1 hn
  have hle := hi.szle hn
  have hs := h.small
  have lh := BT.ht_le l
  have rh := BT.ht_le r
  go_enter Try.func82, Try.ntmps82
  go_wp2_with fail
  refine (count_any h p p1 p2 hlo hhi hl hr il ir hN.pl hN.pr hle).mono ?_
  rintro e w1 ⟨rfl, k1, s1⟩
  have t1 : Tr (cnt nd p l r) l := hl.upd hN.pl _
  have t2 : Tr (cnt nd p l r) r := hr.upd hN.pr _
  have e0 : (cnt nd p l r p).lo = l.root := by simp only [cnt, upd_same]; exact hlo
  have e1 : (cnt nd p l r p).hi = r.root := by simp only [cnt, upd_same]; exact hhi
  have it1 := cnt_it nd p l r
  have sm1 : ∀ v', v' ≠ p → cnt nd p l r v' = nd v' := fun v' hv => upd_ne _ _ hv
  have T1 : Tr (cnt nd p l r) (.node p l r) := ⟨e0, e1, by simp only [cnt, upd_same], by simp only [cnt, upd_same], t1, t2⟩
  generalize cnt nd p l r = nd1 at s1 t1 t2 e0 e1 it1 sm1 T1
  have E0 := hid e0
  have E1 := hid e1
  have It1 := hid it1
  have Sm1 := hid sm1
  clear hlo hhi e0 e1 it1 sm1
  have c2 := s1.lo p1 p2
  have c3 := s1.hi p1 p2
  rw [E0.out] at c2
  rw [E1.out] at c3
  go_wp2_with fail
  refine wp_loop_rounds 3 ?_
  rw [rounds_succ]
  go_wp2_with fail
  go_quiet ((go_at_call 55; exact Calls.quiet_of_same (flp (node_any (s1.kp0 ((Kp.refl No _).drewN _)) p p1 p2))))
  rename_i nq
  have s2 := s1.kp0 ((Kp.refl No w1).drewN nq)
  have k2 := k1.drewN nq
  clear c2 c3
  generalize w1.drewN nq = w2 at s2 k2 ⊢
  have c2 := s2.lo p1 p2
  have c3 := s2.hi p1 p2
  rw [E0.out] at c2
  rw [E1.out] at c3
  go_wp2_with fail
  refine (deep_any s2 t1 il).mono ?_
  rintro e w' ⟨rfl, rfl⟩
  go_wp2_with fail
  refine (node_any s2 p p1 p2).mono ?_
  rintro e w' ⟨rfl, rfl⟩
  go_wp2_with fail
  refine (deep_any s2 t2 ir).mono ?_
  rintro e w' ⟨rfl, rfl⟩
  go_wp2_with fail
  rw [rounds_succ]
  go_wp2_with fail
  go_quiet ((go_at_call 55; exact Calls.quiet_of_same (flp (node_any (s2.kp0 ((Kp.refl No _).drewN _)) p p1 p2))))
  rename_i nq
  have s3 := s2.kp0 ((Kp.refl No w2).drewN nq)
  have k3 := k2.drewN nq
  clear c2 c3
  generalize w2.drewN nq = w3 at s3 k3 ⊢
  have c2 := s3.lo p1 p2
  have c3 := s3.hi p1 p2
  rw [E0.out] at c2
  rw [E1.out] at c3
  go_wp2_with fail
  refine (deep_any s3 t2 ir).mono ?_
  rintro e w' ⟨rfl, rfl⟩
  go_wp2_with fail
  refine (node_any s3 p p1 p2).mono ?_
  rintro e w' ⟨rfl, rfl⟩
  go_wp2_with fail
  refine (deep_any s3 t1 il).mono ?_
  rintro e w' ⟨rfl, rfl⟩
  go_wp2_with fail
  rw [rounds_succ]
  go_wp2_with fail
  go_ret
  exact ⟨rfl, k3, _, s3, T1, rfl, lev_no p l r h1 h2, fun q hq => Sm1.out q (by rintro rfl; exact hq BT.in_p), It1.out⟩

set_option maxHeartbeats 1000000 in
theorem level_l1 (h : Sh w g b c n nd top) (p q : Nat) {x y z : BT} (hlo : (nd p).lo = BT.root (.node q x y)) (hhi : (nd p).hi = BT.root z) (hl : Tr nd (.node q x y)) (hr : Tr nd z) (hn : (BT.node p (.node q x y) z).pls.Nodup) (hi : In n (BT.node p (.node q x y) z).pls)
    (h1 : z.ht + 1 < (BT.node q x y).ht) (h2 : y.ht ≤ x.ht) :
    Calls Try.prog 82 #[.pointer (some ⟨g, 0, none⟩), .int .i64 (p : Int)] w fun e w' => e = .returned (.int .i64 (q : Int)) ∧ Kp (Only b) w w' ∧ ∃ nd', Sh w' g b c n nd' top ∧ Lvl nd nd' p (.node q x y) z (.node q x (.node p y z)) := by
  obtain ⟨p1, p2⟩ := hi.p
  have il := hi.l
  have ir := hi.r
  have hN := nod_iff.1 hn
  have hle := hi.szle hn
  have hs := h.small
  have lh := BT.ht_le (.node q x y)
  have rh := BT.ht_le z
  have iq := hi.l
  obtain ⟨q1, q2⟩ := iq.p
  have ix := iq.l
  have iy := iq.r
  have nq' := hN.nl
  have hQ := nod_iff.1 nq'
  have xh := x.ht_le
  have yh := BT.ht_le y
  have hle2 := iq.szle nq'
  have hnb : ¬ (BT.node q x y).ht ≤ z.ht + 1 := by omega
  go_enter Try.func82, Try.ntmps82
  go_wp2_with fail
  refine (count_any h p p1 p2 hlo hhi hl hr il ir hN.pl hN.pr hle).mono ?_
  rintro e w1 ⟨rfl, k1, s1⟩
  have t1 : Tr (cnt nd p (.node q x y) z) (.node q x y) := hl.upd hN.pl _
  have t2 : Tr (cnt nd p (.node q x y) z) z := hr.upd hN.pr _
  have e0 : (cnt nd p (.node q x y) z p).lo = q := by simp only [cnt, upd_same]; exact hlo
  have e1 : (cnt nd p (.node q x y) z p).hi = z.root := by simp only [cnt, upd_same]; exact hhi
  have it1 := cnt_it nd p (.node q x y) z
  have sm1 : ∀ v', v' ≠ p → cnt nd p (.node q x y) z v' = nd v' := fun v' hv => upd_ne _ _ hv
  have T1 : Tr (cnt nd p (.node q x y) z) (.node p (.node q x y) z) := ⟨e0, e1, by simp only [cnt, upd_same], by simp only [cnt, upd_same], t1, t2⟩
  generalize cnt nd p (.node q x y) z = nd1 at s1 t1 t2 e0 e1 it1 sm1 T1
  have E0 := hid e0
  have E1 := hid e1
  have It1 := hid it1
  have Sm1 := hid sm1
  clear hlo hhi e0 e1 it1 sm1
  have c2 := s1.lo p1 p2
  have c3 := s1.hi p1 p2
  rw [E0.out] at c2
  rw [E1.out] at c3
  go_wp2_with fail
  refine wp_loop_rounds 3 ?_
  rw [rounds_succ]
  go_wp2_with fail
  go_quiet ((go_at_call 55; exact Calls.quiet_of_same (flp (node_any (s1.kp0 ((Kp.refl No _).drewN _)) p p1 p2))))
  rename_i nq
  have s2 := s1.kp0 ((Kp.refl No w1).drewN nq)
  have k2 := k1.drewN nq
  clear c2 c3
  generalize w1.drewN nq = w2 at s2 k2 ⊢
  have c2 := s2.lo p1 p2
  have c3 := s2.hi p1 p2
  rw [E0.out] at c2
  rw [E1.out] at c3
  go_wp2_with fail
  refine (deep_any s2 t1 il).mono ?_
  rintro e w' ⟨rfl, rfl⟩
  go_wp2_with fail
  refine (node_any s2 p p1 p2).mono ?_
  rintro e w' ⟨rfl, rfl⟩
  go_wp2_with fail
  refine (deep_any s2 t2 ir).mono ?_
  rintro e w' ⟨rfl, rfl⟩
  go_wp2_with fail
  obtain ⟨a1, a2, a3, a4, a5, a6⟩ := t1
  have cx := s2.lo q1 q2
  have cy := s2.hi q1 q2
  rw [a1] at cx
  rw [a2] at cy
  have X0 := hid a1
  have Y0 := hid a2
  clear a1 a2 a3 a4
  refine (node_any s2 q q1 q2).mono ?_
  rintro e w' ⟨rfl, rfl⟩
  go_wp2_with fail
  refine (deep_any s2 a6 iy).mono ?_
  rintro e w' ⟨rfl, rfl⟩
  go_wp2_with fail
  refine (node_any s2 q q1 q2).mono ?_
  rintro e w' ⟨rfl, rfl⟩
  go_wp2_with fail
  refine (deep_any s2 a5 ix).mono ?_
  rintro e w' ⟨rfl, rfl⟩
  go_wp2_with fail
  clear cx cy c2 c3
  refine (lift0_any s2 p q (x := x) (y := y) (z := z) E0.out E1.out X0.out Y0.out a5 a6 t2 hn hi).mono ?_
  rintro e w5 ⟨rfl, k5, nd5, s5, t5, L5⟩
  go_wp2_with fail
  go_ret
  refine ⟨rfl, (k2).trans k5, nd5, s5, t5, by simp [BT.pls], lev_l1 p q x y z h1 h2, fun v hv => ?_, fun v => (L5.item v).trans (It1.out v)⟩
  have vp : v ≠ p := by rintro rfl; exact hv BT.in_p
  have vq : v ≠ q := by rintro rfl; exact hv (BT.in_l BT.in_p)
  rw [L5.same v vp vq, Sm1.out v vp]

set_option maxHeartbeats 1000000 in
theorem level_r1 (h : Sh w g b c n nd top) (p q : Nat) {x y z : BT} (hlo : (nd p).lo = BT.root z) (hhi : (nd p).hi = BT.root (.node q y x)) (hl : Tr nd z) (hr : Tr nd (.node q y x)) (hn : (BT.node p z (.node q y x)).pls.Nodup) (hi : In n (BT.node p z (.node q y x)).pls)
    (h1 : z.ht + 1 < (BT.node q y x).ht) (h2 : y.ht ≤ x.ht) :
    Calls Try.prog 82 #[.pointer (some ⟨g, 0, none⟩), .int .i64 (p : Int)] w fun e w' => e = .returned (.int .i64 (q : Int)) ∧ Kp (Only b) w w' ∧ ∃ nd', Sh w' g b c n nd' top ∧ Lvl nd nd' p z (.node q y x) (.node q (.node p z y) x) := by
  obtain ⟨p1, p2⟩ := hi.p
  have il := hi.l
  have ir := hi.r
  have hN := nod_iff.1 hn
  have hle := hi.szle hn
  have hs := h.small
  have lh := BT.ht_le z
  have rh := BT.ht_le (.node q y x)
  have iq := hi.r
  obtain ⟨q1, q2⟩ := iq.p
  have ix := iq.r
  have iy := iq.l
  have nq' := hN.nr
  have hQ := nod_iff.1 nq'
  have xh := x.ht_le
  have yh := BT.ht_le y
  have hle2 := iq.szle nq'
  have hnb : ¬ (BT.node q y x).ht ≤ z.ht + 1 := by omega
  go_enter Try.func82, Try.ntmps82
  go_wp2_with fail
  refine (count_any h p p1 p2 hlo hhi hl hr il ir hN.pl hN.pr hle).mono ?_
  rintro e w1 ⟨rfl, k1, s1⟩
  have t1 : Tr (cnt nd p z (.node q y x)) z := hl.upd hN.pl _
  have t2 : Tr (cnt nd p z (.node q y x)) (.node q y x) := hr.upd hN.pr _
  have e0 : (cnt nd p z (.node q y x) p).lo = z.root := by simp only [cnt, upd_same]; exact hlo
  have e1 : (cnt nd p z (.node q y x) p).hi = q := by simp only [cnt, upd_same]; exact hhi
  have it1 := cnt_it nd p z (.node q y x)
  have sm1 : ∀ v', v' ≠ p → cnt nd p z (.node q y x) v' = nd v' := fun v' hv => upd_ne _ _ hv
  have T1 : Tr (cnt nd p z (.node q y x)) (.node p z (.node q y x)) := ⟨e0, e1, by simp only [cnt, upd_same], by simp only [cnt, upd_same], t1, t2⟩
  generalize cnt nd p z (.node q y x) = nd1 at s1 t1 t2 e0 e1 it1 sm1 T1
  have E0 := hid e0
  have E1 := hid e1
  have It1 := hid it1
  have Sm1 := hid sm1
  clear hlo hhi e0 e1 it1 sm1
  have c2 := s1.lo p1 p2
  have c3 := s1.hi p1 p2
  rw [E0.out] at c2
  rw [E1.out] at c3
  go_wp2_with fail
  refine wp_loop_rounds 3 ?_
  rw [rounds_succ]
  go_wp2_with fail
  go_quiet ((go_at_call 55; exact Calls.quiet_of_same (flp (node_any (s1.kp0 ((Kp.refl No _).drewN _)) p p1 p2))))
  rename_i nq
  have s2 := s1.kp0 ((Kp.refl No w1).drewN nq)
  have k2 := k1.drewN nq
  clear c2 c3
  generalize w1.drewN nq = w2 at s2 k2 ⊢
  have c2 := s2.lo p1 p2
  have c3 := s2.hi p1 p2
  rw [E0.out] at c2
  rw [E1.out] at c3
  go_wp2_with fail
  refine (deep_any s2 t1 il).mono ?_
  rintro e w' ⟨rfl, rfl⟩
  go_wp2_with fail
  refine (node_any s2 p p1 p2).mono ?_
  rintro e w' ⟨rfl, rfl⟩
  go_wp2_with fail
  refine (deep_any s2 t2 ir).mono ?_
  rintro e w' ⟨rfl, rfl⟩
  go_wp2_with fail
  rw [rounds_succ]
  go_wp2_with fail
  go_quiet ((go_at_call 55; exact Calls.quiet_of_same (flp (node_any (s2.kp0 ((Kp.refl No _).drewN _)) p p1 p2))))
  rename_i nq
  have s3 := s2.kp0 ((Kp.refl No w2).drewN nq)
  have k3 := k2.drewN nq
  clear c2 c3
  generalize w2.drewN nq = w3 at s3 k3 ⊢
  have c2 := s3.lo p1 p2
  have c3 := s3.hi p1 p2
  rw [E0.out] at c2
  rw [E1.out] at c3
  go_wp2_with fail
  refine (deep_any s3 t2 ir).mono ?_
  rintro e w' ⟨rfl, rfl⟩
  go_wp2_with fail
  refine (node_any s3 p p1 p2).mono ?_
  rintro e w' ⟨rfl, rfl⟩
  go_wp2_with fail
  refine (deep_any s3 t1 il).mono ?_
  rintro e w' ⟨rfl, rfl⟩
  go_wp2_with fail
  obtain ⟨a1, a2, a3, a4, a5, a6⟩ := t2
  have cx := s3.hi q1 q2
  have cy := s3.lo q1 q2
  rw [a2] at cx
  rw [a1] at cy
  have X0 := hid a2
  have Y0 := hid a1
  clear a1 a2 a3 a4
  refine (node_any s3 q q1 q2).mono ?_
  rintro e w' ⟨rfl, rfl⟩
  go_wp2_with fail
  refine (deep_any s3 a5 iy).mono ?_
  rintro e w' ⟨rfl, rfl⟩
  go_wp2_with fail
  refine (node_any s3 q q1 q2).mono ?_
  rintro e w' ⟨rfl, rfl⟩
  go_wp2_with fail
  refine (deep_any s3 a6 ix).mono ?_
  rintro e w' ⟨rfl, rfl⟩
  go_wp2_with fail
  clear cx cy c2 c3
  refine (lift1_any s3 p q (x := x) (y := y) (z := z) E1.out E0.out X0.out Y0.out a6 a5 t1 hn hi).mono ?_
  rintro e w5 ⟨rfl, k5, nd5, s5, t5, L5⟩
  go_wp2_with fail
  go_ret
  refine ⟨rfl, (k3).trans k5, nd5, s5, t5, by simp [BT.pls], lev_r1 p q x y z h1 h2, fun v hv => ?_, fun v => (L5.item v).trans (It1.out v)⟩
  have vp : v ≠ p := by rintro rfl; exact hv BT.in_p
  have vq : v ≠ q := by rintro rfl; exact hv (BT.in_r BT.in_p)
  rw [L5.same v vp vq, Sm1.out v vp]

set_option maxHeartbeats 1000000 in
theorem level_l2 (h : Sh w g b c n nd top) (p q m : Nat) {x y1 y2 z : BT} (hlo : (nd p).lo = BT.root (.node q x (.node m y1 y2))) (hhi : (nd p).hi = BT.root z) (hl : Tr nd (.node q x (.node m y1 y2))) (hr : Tr nd z) (hn : (BT.node p (.node q x (.node m y1 y2)) z).pls.Nodup) (hi : In n (BT.node p (.node q x (.node m y1 y2)) z).pls)
    (h1 : z.ht + 1 < (BT.node q x (.node m y1 y2)).ht) (h2 : x.ht < (BT.node m y1 y2).ht) :
    Calls Try.prog 82 #[.pointer (some ⟨g, 0, none⟩), .int .i64 (p : Int)] w fun e w' => e = .returned (.int .i64 (m : Int)) ∧ Kp (Only b) w w' ∧ ∃ nd', Sh w' g b c n nd' top ∧ Lvl nd nd' p (.node q x (.node m y1 y2)) z (.node m (.node q x y1) (.node p y2 z)) := by
  obtain ⟨p1, p2⟩ := hi.p
  have il := hi.l
  have ir := hi.r
  have hN := nod_iff.1 hn
  have hle := hi.szle hn
  have hs := h.small
  have lh := BT.ht_le (.node q x (.node m y1 y2))
  have rh := BT.ht_le z
  have iq := hi.l
  obtain ⟨q1, q2⟩ := iq.p
  have ix := iq.l
  have iy := iq.r
  have nq' := hN.nl
  have hQ := nod_iff.1 nq'
  have xh := x.ht_le
  have yh := BT.ht_le (.node m y1 y2)
  have hle2 := iq.szle nq'
  have hnb : ¬ (BT.node q x (.node m y1 y2)).ht ≤ z.ht + 1 := by omega
  go_enter Try.func82, Try.ntmps82
  go_wp2_with fail
  refine (count_any h p p1 p2 hlo hhi hl hr il ir hN.pl hN.pr hle).mono ?_
  rintro e w1 ⟨rfl, k1, s1⟩
  have t1 : Tr (cnt nd p (.node q x (.node m y1 y2)) z) (.node q x (.node m y1 y2)) := hl.upd hN.pl _
  have t2 : Tr (cnt nd p (.node q x (.node m y1 y2)) z) z := hr.upd hN.pr _
  have e0 : (cnt nd p (.node q x (.node m y1 y2)) z p).lo = q := by simp only [cnt, upd_same]; exact hlo
  have e1 : (cnt nd p (.node q x (.node m y1 y2)) z p).hi = z.root := by simp only [cnt, upd_same]; exact hhi
  have it1 := cnt_it nd p (.node q x (.node m y1 y2)) z
  have sm1 : ∀ v', v' ≠ p → cnt nd p (.node q x (.node m y1 y2)) z v' = nd v' := fun v' hv => upd_ne _ _ hv
  have T1 : Tr (cnt nd p (.node q x (.node m y1 y2)) z) (.node p (.node q x (.node m y1 y2)) z) := ⟨e0, e1, by simp only [cnt, upd_same], by simp only [cnt, upd_same], t1, t2⟩
  generalize cnt nd p (.node q x (.node m y1 y2)) z = nd1 at s1 t1 t2 e0 e1 it1 sm1 T1
  have E0 := hid e0
  have E1 := hid e1
  have It1 := hid it1
  have Sm1 := hid sm1
  clear hlo hhi e0 e1 it1 sm1
  have c2 := s1.lo p1 p2
  have c3 := s1.hi p1 p2
  rw [E0.out] at c2
  rw [E1.out] at c3
  go_wp2_with fail
  refine wp_loop_rounds 3 ?_
  rw [rounds_succ]
  go_wp2_with fail
  go_quiet ((go_at_call 55; exact Calls.quiet_of_same (flp (node_any (s1.kp0 ((Kp.refl No _).drewN _)) p p1 p2))))
  rename_i nq
  have s2 := s1.kp0 ((Kp.refl No w1).drewN nq)
  have k2 := k1.drewN nq
  clear c2 c3
  generalize w1.drewN nq = w2 at s2 k2 ⊢
  have c2 := s2.lo p1 p2
  have c3 := s2.hi p1 p2
  rw [E0.out] at c2
  rw [E1.out] at c3
  go_wp2_with fail
  refine (deep_any s2 t1 il).mono ?_
  rintro e w' ⟨rfl, rfl⟩
  go_wp2_with fail
  refine (node_any s2 p p1 p2).mono ?_
  rintro e w' ⟨rfl, rfl⟩
  go_wp2_with fail
  refine (deep_any s2 t2 ir).mono ?_
  rintro e w' ⟨rfl, rfl⟩
  go_wp2_with fail
  obtain ⟨a1, a2, a3, a4, a5, a6⟩ := t1
  have cx := s2.lo q1 q2
  have cy := s2.hi q1 q2
  rw [a1] at cx
  rw [a2] at cy
  have X0 := hid a1
  have Y0 := hid a2
  clear a1 a2 a3 a4
  refine (node_any s2 q q1 q2).mono ?_
  rintro e w' ⟨rfl, rfl⟩
  go_wp2_with fail
  refine (deep_any s2 a6 iy).mono ?_
  rintro e w' ⟨rfl, rfl⟩
  go_wp2_with fail
  refine (node_any s2 q q1 q2).mono ?_
  rintro e w' ⟨rfl, rfl⟩
  go_wp2_with fail
  refine (deep_any s2 a5 ix).mono ?_
  rintro e w' ⟨rfl, rfl⟩
  go_wp2_with fail
  obtain ⟨b1, b2, b3, b4, b5, b6⟩ := a6
  obtain ⟨m1, m2⟩ := iy.p
  have sD := s2.kp0 (Kp.refl No _).drew
  have kD := k2.drew
  clear cx cy
  have c2' := hid c2
  have c3' := hid c3
  clear c2 c3
  go_region_with (first
    | (go_at_call 97
       refine (lift1_any sD q m (x := y2) (y := y1) (z := x) Y0.out X0.out b2 b1 b6 b5 a5 nq' iq).mono ?_
       rintro e w5 ⟨rfl, k5, nd5, s5, t5, L5⟩
       have c6 := s5.lo p1 p2
       have f6 := s5.row.frozen (ad p + 2))
    | (go_at_call 55
       first
         | with_reducible refine (node_any s5 p p1 p2).mono ?_
         | with_reducible refine (node_any sD p p1 p2).mono ?_
       rintro e w' ⟨rfl, rfl⟩))
  all_goals
    have pq : p ≠ q := by rintro rfl; exact hN.pl BT.in_p
    have pm : p ≠ m := by rintro rfl; exact hN.pl (BT.in_r BT.in_p)
    have E5 := hid (L5.same p pq pm)
    have z5 := t2.ext2 fun v hv => L5.same v (by rintro rfl; exact hN.lr v BT.in_p hv) (by rintro rfl; exact hN.lr v (BT.in_r BT.in_p) hv)
    obtain ⟨g1, g2, g3, g4, g5, g6⟩ := t5
    have s6 := s5.put p1 p2 (i := 2) (by omega) { nd5 p with lo := m } rfl (fun j hj hne => by
      match j, hj with
      | 0, _ => rfl
      | 1, _ => rfl
      | 2, _ => exact absurd rfl hne
      | 3, _ => rfl
      | 4, _ => rfl
      | 5, _ => rfl
      )
    have k6 := ((kD.trans k5).trans (Kp.set1 b (ad p + 2) w5 (.int .i64 (m : Int))))
    clear c6 f6
    go_wp2_with fail
    have up6 : ∀ v', v' ≠ p → upd nd5 p { nd5 p with lo := m } v' = nd5 v' := fun v' hv => upd_ne _ _ hv
    have ex6 : ∀ {t : BT}, p ∉ t.pls → Tr nd5 t → Tr (upd nd5 p { nd5 p with lo := m }) t := fun hp ht => ht.upd hp _
    have l7 : ∀ v, v ∈ (BT.node m (.node q x y1) y2).pls ↔ v ∈ (BT.node q x (.node m y1 y2)).pls := fun v => by simp [BT.pls]
    have n7 : (BT.node p (.node m (.node q x y1) y2) z).pls.Nodup := by simpa [BT.pls] using hn
    have i7 : In n (BT.node p (.node m (.node q x y1) y2) z).pls := by simpa [BT.pls] using hi
    have N7 := nod_iff.1 n7
    refine (lift0_any s6 p m (x := (.node q x y1)) (y := y2) (z := z) (by rw [upd_same]) (by rw [upd_same]; exact (congrArg Nd.hi E5.out).trans E1.out) (by rw [up6 m (Ne.symm pm)]; exact g1) (by rw [up6 m (Ne.symm pm)]; exact g2) (ex6 (fun h => N7.pl (BT.in_l h)) g5) (ex6 (fun h => N7.pl (BT.in_r h)) g6) (ex6 N7.pr z5) n7 i7).mono ?_
    rintro e w8 ⟨rfl, k8, nd8, s8, t8, L8⟩
    go_wp2_with fail
    go_ret
    refine ⟨rfl, k6.trans k8, nd8, s8, t8, by simp [BT.pls], lev_l2 p q m x y1 y2 z h1 h2, fun v hv => ?_, fun v => ?_⟩
    · have vp : v ≠ p := by rintro rfl; exact hv BT.in_p
      have vm : v ≠ m := by rintro rfl; exact hv (BT.in_l (BT.in_r BT.in_p))
      have vq : v ≠ q := by rintro rfl; exact hv (BT.in_l BT.in_p)
      rw [L8.same v vp vm, up6 v vp, L5.same v vq vm, Sm1.out v vp]
    · rw [L8.item v]
      by_cases vp : v = p
      · subst vp
        rw [upd_same]
        exact (congrArg Nd.it E5.out).trans (It1.out v)
      · rw [up6 v vp, L5.item v, It1.out v]

set_option maxHeartbeats 1000000 in
theorem level_r2 (h : Sh w g b c n nd top) (p q m : Nat) {x y1 y2 z : BT} (hlo : (nd p).lo = BT.root z) (hhi : (nd p).hi = BT.root (.node q (.node m y2 y1) x)) (hl : Tr nd z) (hr : Tr nd (.node q (.node m y2 y1) x)) (hn : (BT.node p z (.node q (.node m y2 y1) x)).pls.Nodup) (hi : In n (BT.node p z (.node q (.node m y2 y1) x)).pls)
    (h1 : z.ht + 1 < (BT.node q (.node m y2 y1) x).ht) (h2 : x.ht < (BT.node m y2 y1).ht) :
    Calls Try.prog 82 #[.pointer (some ⟨g, 0, none⟩), .int .i64 (p : Int)] w fun e w' => e = .returned (.int .i64 (m : Int)) ∧ Kp (Only b) w w' ∧ ∃ nd', Sh w' g b c n nd' top ∧ Lvl nd nd' p z (.node q (.node m y2 y1) x) (.node m (.node p z y2) (.node q y1 x)) := by
  obtain ⟨p1, p2⟩ := hi.p
  have il := hi.l
  have ir := hi.r
  have hN := nod_iff.1 hn
  have hle := hi.szle hn
  have hs := h.small
  have lh := BT.ht_le z
  have rh := BT.ht_le (.node q (.node m y2 y1) x)
  have iq := hi.r
  obtain ⟨q1, q2⟩ := iq.p
  have ix := iq.r
  have iy := iq.l
  have nq' := hN.nr
  have hQ := nod_iff.1 nq'
  have xh := x.ht_le
  have yh := BT.ht_le (.node m y2 y1)
  have hle2 := iq.szle nq'
  have hnb : ¬ (BT.node q (.node m y2 y1) x).ht ≤ z.ht + 1 := by omega
  go_enter Try.func82, Try.ntmps82
  go_wp2_with fail
  refine (count_any h p p1 p2 hlo hhi hl hr il ir hN.pl hN.pr hle).mono ?_
  rintro e w1 ⟨rfl, k1, s1⟩
  have t1 : Tr (cnt nd p z (.node q (.node m y2 y1) x)) z := hl.upd hN.pl _
  have t2 : Tr (cnt nd p z (.node q (.node m y2 y1) x)) (.node q (.node m y2 y1) x) := hr.upd hN.pr _
  have e0 : (cnt nd p z (.node q (.node m y2 y1) x) p).lo = z.root := by simp only [cnt, upd_same]; exact hlo
  have e1 : (cnt nd p z (.node q (.node m y2 y1) x) p).hi = q := by simp only [cnt, upd_same]; exact hhi
  have it1 := cnt_it nd p z (.node q (.node m y2 y1) x)
  have sm1 : ∀ v', v' ≠ p → cnt nd p z (.node q (.node m y2 y1) x) v' = nd v' := fun v' hv => upd_ne _ _ hv
  have T1 : Tr (cnt nd p z (.node q (.node m y2 y1) x)) (.node p z (.node q (.node m y2 y1) x)) := ⟨e0, e1, by simp only [cnt, upd_same], by simp only [cnt, upd_same], t1, t2⟩
  generalize cnt nd p z (.node q (.node m y2 y1) x) = nd1 at s1 t1 t2 e0 e1 it1 sm1 T1
  have E0 := hid e0
  have E1 := hid e1
  have It1 := hid it1
  have Sm1 := hid sm1
  clear hlo hhi e0 e1 it1 sm1
  have c2 := s1.lo p1 p2
  have c3 := s1.hi p1 p2
  rw [E0.out] at c2
  rw [E1.out] at c3
  go_wp2_with fail
  refine wp_loop_rounds 3 ?_
  rw [rounds_succ]
  go_wp2_with fail
  go_quiet ((go_at_call 55; exact Calls.quiet_of_same (flp (node_any (s1.kp0 ((Kp.refl No _).drewN _)) p p1 p2))))
  rename_i nq
  have s2 := s1.kp0 ((Kp.refl No w1).drewN nq)
  have k2 := k1.drewN nq
  clear c2 c3
  generalize w1.drewN nq = w2 at s2 k2 ⊢
  have c2 := s2.lo p1 p2
  have c3 := s2.hi p1 p2
  rw [E0.out] at c2
  rw [E1.out] at c3
  go_wp2_with fail
  refine (deep_any s2 t1 il).mono ?_
  rintro e w' ⟨rfl, rfl⟩
  go_wp2_with fail
  refine (node_any s2 p p1 p2).mono ?_
  rintro e w' ⟨rfl, rfl⟩
  go_wp2_with fail
  refine (deep_any s2 t2 ir).mono ?_
  rintro e w' ⟨rfl, rfl⟩
  go_wp2_with fail
  rw [rounds_succ]
  go_wp2_with fail
  go_quiet ((go_at_call 55; exact Calls.quiet_of_same (flp (node_any (s2.kp0 ((Kp.refl No _).drewN _)) p p1 p2))))
  rename_i nq
  have s3 := s2.kp0 ((Kp.refl No w2).drewN nq)
  have k3 := k2.drewN nq
  clear c2 c3
  generalize w2.drewN nq = w3 at s3 k3 ⊢
  have c2 := s3.lo p1 p2
  have c3 := s3.hi p1 p2
  rw [E0.out] at c2
  rw [E1.out] at c3
  go_wp2_with fail
  refine (deep_any s3 t2 ir).mono ?_
  rintro e w' ⟨rfl, rfl⟩
  go_wp2_with fail
  refine (node_any s3 p p1 p2).mono ?_
  rintro e w' ⟨rfl, rfl⟩
  go_wp2_with fail
  refine (deep_any s3 t1 il).mono ?_
  rintro e w' ⟨rfl, rfl⟩
  go_wp2_with fail
  obtain ⟨a1, a2, a3, a4, a5, a6⟩ := t2
  have cx := s3.hi q1 q2
  have cy := s3.lo q1 q2
  rw [a2] at cx
  rw [a1] at cy
  have X0 := hid a2
  have Y0 := hid a1
  clear a1 a2 a3 a4
  refine (node_any s3 q q1 q2).mono ?_
  rintro e w' ⟨rfl, rfl⟩
  go_wp2_with fail
  refine (deep_any s3 a5 iy).mono ?_
  rintro e w' ⟨rfl, rfl⟩
  go_wp2_with fail
  refine (node_any s3 q q1 q2).mono ?_
  rintro e w' ⟨rfl, rfl⟩
  go_wp2_with fail
  refine (deep_any s3 a6 ix).mono ?_
  rintro e w' ⟨rfl, rfl⟩
  go_wp2_with fail
  obtain ⟨b1, b2, b3, b4, b5, b6⟩ := a5
  obtain ⟨m1, m2⟩ := iy.p
  have sD := s3.kp0 (Kp.refl No _).drew
  have kD := k3.drew
  clear cx cy
  have c2' := hid c2
  have c3' := hid c3
  clear c2 c3
  go_region_with (first
    | (go_at_call 97
       refine (lift0_any sD q m (x := y2) (y := y1) (z := x) Y0.out X0.out b1 b2 b5 b6 a6 nq' iq).mono ?_
       rintro e w5 ⟨rfl, k5, nd5, s5, t5, L5⟩
       have c6 := s5.hi p1 p2
       have f6 := s5.row.frozen (ad p + 2 + 1))
    | (go_at_call 55
       first
         | with_reducible refine (node_any s5 p p1 p2).mono ?_
         | with_reducible refine (node_any sD p p1 p2).mono ?_
       rintro e w' ⟨rfl, rfl⟩))
  all_goals
    have pq : p ≠ q := by rintro rfl; exact hN.pr BT.in_p
    have pm : p ≠ m := by rintro rfl; exact hN.pr (BT.in_l BT.in_p)
    have E5 := hid (L5.same p pq pm)
    have z5 := t1.ext2 fun v hv => L5.same v (by rintro rfl; exact hN.lr v hv BT.in_p) (by rintro rfl; exact hN.lr v hv (BT.in_l BT.in_p))
    obtain ⟨g1, g2, g3, g4, g5, g6⟩ := t5
    have s6 := s5.put p1 p2 (i := 3) (by omega) { nd5 p with hi := m } rfl (fun j hj hne => by
      match j, hj with
      | 0, _ => rfl
      | 1, _ => rfl
      | 2, _ => rfl
      | 3, _ => exact absurd rfl hne
      | 4, _ => rfl
      | 5, _ => rfl
      )
    have k6 := ((kD.trans k5).trans (Kp.set1 b (ad p + 2 + 1) w5 (.int .i64 (m : Int))))
    clear c6 f6
    go_wp2_with fail
    have up6 : ∀ v', v' ≠ p → upd nd5 p { nd5 p with hi := m } v' = nd5 v' := fun v' hv => upd_ne _ _ hv
    have ex6 : ∀ {t : BT}, p ∉ t.pls → Tr nd5 t → Tr (upd nd5 p { nd5 p with hi := m }) t := fun hp ht => ht.upd hp _
    have l7 : ∀ v, v ∈ (BT.node m y2 (.node q y1 x)).pls ↔ v ∈ (BT.node q (.node m y2 y1) x).pls := fun v => by simp [BT.pls]
    have n7 : (BT.node p z (.node m y2 (.node q y1 x))).pls.Nodup := by simpa [BT.pls] using hn
    have i7 : In n (BT.node p z (.node m y2 (.node q y1 x))).pls := by simpa [BT.pls] using hi
    have N7 := nod_iff.1 n7
    refine (lift1_any s6 p m (x := (.node q y1 x)) (y := y2) (z := z) (by rw [upd_same]) (by rw [upd_same]; exact (congrArg Nd.lo E5.out).trans E0.out) (by rw [up6 m (Ne.symm pm)]; exact g2) (by rw [up6 m (Ne.symm pm)]; exact g1) (ex6 (fun h => N7.pr (BT.in_r h)) g6) (ex6 (fun h => N7.pr (BT.in_l h)) g5) (ex6 N7.pl z5) n7 i7).mono ?_
    rintro e w8 ⟨rfl, k8, nd8, s8, t8, L8⟩
    go_wp2_with fail
    go_ret
    refine ⟨rfl, k6.trans k8, nd8, s8, t8, by simp [BT.pls], lev_r2 p q m x y1 y2 z h1 h2, fun v hv => ?_, fun v => ?_⟩
    · have vp : v ≠ p := by rintro rfl; exact hv BT.in_p
      have vm : v ≠ m := by rintro rfl; exact hv (BT.in_r (BT.in_l BT.in_p))
      have vq : v ≠ q := by rintro rfl; exact hv (BT.in_r BT.in_p)
      rw [L8.same v vp vm, up6 v vp, L5.same v vq vm, Sm1.out v vp]
    · rw [L8.item v]
      by_cases vp : v = p
      · subst vp
        rw [upd_same]
        exact (congrArg Nd.it E5.out).trans (It1.out v)
      · rw [up6 v vp, L5.item v, It1.out v]
end
end Go.Proofs.Ytpbnmfoecmhnnaa
