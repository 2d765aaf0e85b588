/-
  Contract: Drop.
-/
import Derived.Test.YtpbnmfoecmhnnaaSI
namespace Go.Proofs.Ytpbnmfoecmhnnaa
open Go.RowKit

section
variable {w w' : World} {g b c n top : Nat} {nd nd' : Nat → Nd} {S : Nat → Prop}

theorem Way.srt {T t : BT} {x : It} {fs : List Fr} (hw : Way nd x T fs t) (hs : Srt nd T.pls) : Srt nd (lc fs ++ (t.pls ++ rc fs)) := by
  rw [hw.plug, plug_pls] at hs
  exact hs

/-- A node above one at most is taken out. -/
theorem drop1 {T l r t : BT} {fs : List Fr} {p : Nat} (hI : Inv nd n T) (hp : T = plug fs (.node p l r)) (hsd : Sds fs) (ht : l = .nil ∧ t = r ∨ r = .nil ∧ t = l) (hs : n ≤ 1000000000) :
    fs.length ≤ 1000000000 ∧ Tr nd t ∧ TrF nd fs ∧ (plug fs t).pls.Nodup ∧ In n (plug fs t).pls ∧ Bal t ∧ BalF fs (BT.node p l r).ht ∧ Near (BT.node p l r).ht t.ht := by
  obtain ⟨i1, i2, i3, i4, i5, i6⟩ := hI
  subst hp
  have hpl := plug_pls fs (.node p l r)
  simp only [BT.pls] at hpl
  have hlen := plug_ht fs (.node p l r)
  have hht := (plug fs (.node p l r)).ht_le
  rw [BT.sz] at hht
  obtain ⟨⟨x1, x2, x3, x4, x5, x6⟩, t2⟩ := Tr.plug hsd i1
  obtain ⟨⟨y1, y2, y3, y4⟩, b2⟩ := i2.plug
  have hpt := plug_pls fs t
  rcases ht with ⟨rfl, rfl⟩ | ⟨rfl, rfl⟩
  · refine ⟨by omega, x6, t2, ?_, ?_, y4, b2, ?_⟩
    · rw [hpt]
      rw [hpl] at i3
      simp only [BT.pls, List.nil_append, List.nodup_append, List.nodup_cons, List.mem_append, List.mem_cons] at i3 ⊢
      grind
    · rw [hpt]
      intro q hq
      refine i5 q ?_
      rw [hpl]
      simp only [BT.pls, List.mem_append, List.mem_cons] at hq ⊢
      grind
    · unfold Near
      simp only [BT.ht] at *
      omega
  · refine ⟨by omega, x5, t2, ?_, ?_, y3, b2, ?_⟩
    · rw [hpt]
      rw [hpl] at i3
      simp only [BT.pls, List.nodup_append, List.nodup_cons, List.mem_append, List.mem_cons] at i3 ⊢
      grind
    · rw [hpt]
      intro q hq
      refine i5 q ?_
      rw [hpl]
      simp only [BT.pls, List.mem_append, List.mem_cons] at hq ⊢
      grind
    · unfold Near
      simp only [BT.ht] at *
      omega

/-- The items ahead of one, and those behind it. -/
def itL (nd : Nat → Nd) (fs : List Fr) (l : BT) : List It := (lc fs ++ l.pls).map fun p => (nd p).it
def itR (nd : Nat → Nd) (fs : List Fr) (r : BT) : List It := (r.pls ++ rc fs).map fun p => (nd p).it
theorem it_node {T l r : BT} {x : It} {fs : List Fr} {p : Nat} (hw : Way nd x T fs (.node p l r)) (hp : (nd p).it = x) : items nd T = itL nd fs l ++ x :: itR nd fs r := by
  unfold items itL itR
  rw [hw.plug, plug_pls, ← hp]
  simp [BT.pls]

theorem drop1_end {T T7 l r t : BT} {x : It} {fs : List Fr} {p : Nat} {nd7 : Nat → Nd} (hI : Inv nd n T) (hw : Way nd x T fs (.node p l r)) (hp : (nd p).it = x) (ht : l = .nil ∧ t = r ∨ r = .nil ∧ t = l) (hs : n ≤ 1000000000)
    (t7 : Tr nd7 T7) (p7 : T7.pls = (plug fs t).pls) (b7 : Bal T7) (it7 : ∀ q, (nd7 q).it = (nd q).it) : Hol nd7 n T7 p ∧ items nd7 T7 = itL nd fs l ++ itR nd fs r := by
  obtain ⟨_, _, _, h4, h5, _, _⟩ := drop1 hI hw.plug hw.sds ht hs
  have hin := it_node hw hp
  obtain ⟨i1, i2, i3, i4, i5, i6⟩ := hI
  have e : T7.pls = lc fs ++ l.pls ++ (r.pls ++ rc fs) := by
    rw [p7, plug_pls]
    rcases ht with ⟨rfl, rfl⟩ | ⟨rfl, rfl⟩ <;> simp [BT.pls]
  have it : items nd7 T7 = itL nd fs l ++ itR nd fs r := by
    unfold items itL itR
    rw [e, List.map_append]
    simp only [it7]
  have eT : T.pls = lc fs ++ l.pls ++ p :: (r.pls ++ rc fs) := by
    rw [hw.plug, plug_pls]
    simp [BT.pls]
  refine ⟨⟨t7, b7, by rw [p7]; exact h4, ?_, by rw [p7]; exact h5, ?_, ?_, ?_, ?_⟩, it⟩
  · rw [← i4, e, eT]
    simp only [List.length_append, List.length_cons]
    omega
  · show (items nd7 T7).Pairwise _
    rw [it]
    have : Sorted (itL nd fs l ++ x :: itR nd fs r) := by rw [← hin]; exact i6
    unfold Sorted at this
    rw [List.pairwise_append, List.pairwise_cons] at this
    rw [List.pairwise_append]
    exact ⟨this.1, this.2.1.2, fun a ha b hb => this.2.2 a ha b (List.mem_cons.2 (.inr hb))⟩
  · exact (i5 p (by rw [eT]; simp)).1
  · exact (i5 p (by rw [eT]; simp)).2
  · rw [e]
    rw [eT, List.nodup_append, List.nodup_cons] at i3
    intro h
    rcases List.mem_append.1 h with h | h
    · exact i3.2.2 p h p (List.mem_cons.2 (.inl rfl)) rfl
    · exact i3.2.1.1 h

/-- The frames to the next greater item. -/
theorem drop2 {T l r rr : BT} {x : It} {fs gs : List Fr} {p q : Nat} (hI : Inv nd n T) (hw : Way nd x T fs (.node p l r)) (hr : r = plug gs (.node q .nil rr)) (hsd : Sds gs) (hs : n ≤ 1000000000) :
    (gs ++ ⟨p, 1, l⟩ :: fs).length ≤ 1000000000 ∧ Tr (upd nd p { nd p with it := (nd q).it }) rr ∧ TrF (upd nd p { nd p with it := (nd q).it }) (gs ++ ⟨p, 1, l⟩ :: fs) ∧ (plug (gs ++ ⟨p, 1, l⟩ :: fs) rr).pls.Nodup ∧ In n (plug (gs ++ ⟨p, 1, l⟩ :: fs) rr).pls ∧ Bal rr ∧
      BalF (gs ++ ⟨p, 1, l⟩ :: fs) (BT.node q .nil rr).ht ∧ Near (BT.node q .nil rr).ht rr.ht := by
  have hT : T = plug (gs ++ ⟨p, 1, l⟩ :: fs) (.node q .nil rr) := by
    rw [plug_app, ← hr]
    simp only [plug, plug1]
    exact hw.plug
  have hS : Sds (gs ++ ⟨p, 1, l⟩ :: fs) := by
    clear hr hT
    induction gs with
    | nil => exact ⟨.inr rfl, hw.sds⟩
    | cons f gs ih => exact ⟨hsd.1, ih hsd.2⟩
  obtain ⟨h1, h2, h3, h4, h5, h6, h7, h8⟩ := drop1 hI hT hS (t := rr) (.inl ⟨rfl, rfl⟩) hs
  have sh : ∀ y, Shp (nd y) (upd nd p { nd p with it := (nd q).it } y) := fun y => by
    by_cases e : y = p
    · subst e
      rw [upd_same]
      exact ⟨rfl, rfl, rfl, rfl⟩
    · rw [upd_ne nd _ e]
      exact Shp.refl _
  exact ⟨h1, h2.ext fun y _ => sh y, h3.ext fun y _ => sh y, h4, h5, h6, h7, h8⟩

theorem drop2_end {T T7 l r rr : BT} {x : It} {fs gs : List Fr} {p q : Nat} {nd7 : Nat → Nd} (hI : Inv nd n T) (hw : Way nd x T fs (.node p l r)) (hp : (nd p).it = x) (hr : r = plug gs (.node q .nil rr)) (hsd : Sds gs) (hlc : lc gs = []) (hs : n ≤ 1000000000)
    (t7 : Tr nd7 T7) (p7 : T7.pls = (plug (gs ++ ⟨p, 1, l⟩ :: fs) rr).pls) (b7 : Bal T7) (it7 : ∀ y, (nd7 y).it = (upd nd p { nd p with it := (nd q).it } y).it) : Hol nd7 n T7 q ∧ items nd7 T7 = itL nd fs l ++ itR nd fs r := by
  obtain ⟨_, _, _, h4, h5, _, _⟩ := drop2 hI hw hr hsd hs
  have hin := it_node hw hp
  obtain ⟨i1, i2, i3, i4, i5, i6⟩ := hI
  have er : r.pls = q :: (rr.pls ++ rc gs) := by
    rw [hr, plug_pls, hlc]
    simp [BT.pls]
  have e : T7.pls = lc fs ++ l.pls ++ p :: (rr.pls ++ rc gs ++ rc fs) := by
    rw [p7, plug_pls, lc_app, rc_app, hlc]
    simp [lc, rc]
  have eT : T.pls = lc fs ++ l.pls ++ p :: q :: (rr.pls ++ rc gs ++ rc fs) := by
    rw [hw.plug, plug_pls]
    simp [BT.pls, er]
  have nd1 := i3
  rw [eT, List.nodup_append, List.nodup_cons, List.nodup_cons] at nd1
  have same : ∀ {m : List Nat}, p ∉ m → m.map (fun p => (nd7 p).it) = m.map (fun p => (nd p).it) := fun h => List.map_congr_left fun y hy => by
    rw [it7, upd_ne nd _ (by rintro rfl; exact h hy)]
  have pA : p ∉ lc fs ++ l.pls := fun h => nd1.2.2 p h p (List.mem_cons.2 (.inl rfl)) rfl
  have pB : p ∉ rr.pls ++ rc gs ++ rc fs := fun h => nd1.2.1.1 (List.mem_cons.2 (.inr h))
  have it : items nd7 T7 = itL nd fs l ++ itR nd fs r := by
    unfold items itL itR
    rw [e, List.map_append, List.map_cons, same pA, same pB, it7, upd_same, er]
    simp
  refine ⟨⟨t7, b7, by rw [p7]; exact h4, ?_, by rw [p7]; exact h5, ?_, ?_, ?_, ?_⟩, it⟩
  · rw [← i4, e, eT]
    simp only [List.length_append, List.length_cons]
    omega
  · show (items nd7 T7).Pairwise _
    rw [it]
    have : Sorted (itL nd fs l ++ x :: itR nd fs r) := by rw [← hin]; exact i6
    unfold Sorted at this
    rw [List.pairwise_append, List.pairwise_cons] at this
    rw [List.pairwise_append]
    exact ⟨this.1, this.2.1.2, fun a ha b hb => this.2.2 a ha b (List.mem_cons.2 (.inr hb))⟩
  · exact (i5 q (by rw [eT]; simp)).1
  · exact (i5 q (by rw [eT]; simp)).2
  · rw [e]
    intro h
    rcases List.mem_append.1 h with h | h
    · exact nd1.2.2 q h q (by simp) rfl
    · rcases List.mem_cons.1 h with h | h
      · exact nd1.2.1.1 (List.mem_cons.2 (.inl h.symm))
      · exact nd1.2.1.2.1 h

set_option maxRecDepth 100000 in
set_option maxHeartbeats 1000000 in
theorem drop_core (h : Sh w g b c n nd top) {T : BT} (hr : T.root = top) (hI : Inv nd n T) (x : It) (hx : x ∈ items nd T) :
    Calls Try.prog 20 #[.pointer (some ⟨g, 0, none⟩), .agg #[.int .i64 x.key, .int .i64 x.id]] w fun e w' => e = .returned (.bool true) ∧ Kp (GB g b) w w' ∧
      ∃ nd' T' L R, Sh w' g b c (n - 1) nd' T'.root ∧ Inv nd' (n - 1) T' ∧ items nd T = L ++ x :: R ∧ items nd' T' = L ++ R := by
  subst hr
  have hs := h.small
  have hnz : n ≤ 1000000000 := hs
  go_enter Try.func20, Try.ntmps20
  go_wp2_with fail
  have k1 := (Kp.refl No w).alloc (.cells #[.int .i64 x.key, .int .i64 x.id] 24)
  generalize w.alloc (.cells #[.int .i64 x.key, .int .i64 x.id] 24) = w1 at k1 ⊢
  refine (way_any (h.kp0 k1) hI.tr rfl hI.ins hI.nodup hI.srt x).mono ?_
  intro e w2 he
  obtain ⟨v, fs, p, l, r, rfl, k2, hv, hw, hp⟩ := he.there hx
  have k3 := k1.trans k2
  have s2 := h.kp0 k3
  have hgl := h.hd.lt
  have hbl := h.row.lt
  have hs1 := k1.size
  have hs2 := k2.size
  have hne2 : ∀ k, v.ownBlock = some k → k ≠ g ∧ k ≠ b := fun k hk => by
    have := (World.ownsRow.lt hv k hk).1
    omega
  have hpi : In n (BT.node p l r).pls := fun q hq => hI.ins q (by rw [hw.plug, plug_pls]; simp [hq])
  have hfl : fs.length + (BT.node p l r).ht ≤ n := by
    have a1 := plug_ht fs (.node p l r)
    rw [← hw.plug] at a1
    have a2 := T.ht_le
    rw [BT.sz, hI.len] at a2
    omega
  have hNP : (BT.node p l r).pls.Nodup := by
    have := hI.nodup
    rw [hw.plug, plug_pls, List.nodup_append, List.nodup_append] at this
    exact this.2.1.1
  obtain ⟨p1, p2⟩ := hpi.p
  have hb := nz p1
  obtain ⟨hTr, xf⟩ := Tr.plug hw.sds (hw.plug ▸ hI.tr)
  have cl := s2.lo p1 p2
  have ch := s2.hi p1 p2
  rw [hTr.1] at cl
  rw [hTr.2.1] at ch
  have HP := hid hp
  have HV := hid hv
  have HW := hid hw
  have HT := hid hTr
  clear hp hv hw hTr xf
  cases l with
  | nil =>
    cases r with
    | nil =>
      simp only [BT.root, Int.natCast_zero] at cl ch
      go_wp2_with fail
      refine (node_any s2 p p1 p2).mono ?_
      rintro e w' ⟨rfl, rfl⟩
      go_wp2_with fail
      refine region_tail 17 (by kernel_rfl) (by kernel_rfl) ?_
      simp only [List.take_succ_cons, List.take_zero, List.drop_succ_cons, List.drop_zero]
      have sD := s2.kp0 (Kp.refl No _).drew
      repeat still_step
      still_call (flp (node_any sD p p1 p2))
      repeat still_step
      still_call (flp (node_any sD p p1 p2))
      repeat still_step
      refine wpStill_nil ?_
      go_wp2_with fail
      have hP := drop1 hI HW.out.plug HW.out.sds (t := BT.nil) (.inl ⟨rfl, rfl⟩) hnz
      refine (hang_any sD (fs := fs) (t := BT.nil) (ho := (BT.node p BT.nil BT.nil).ht) ((HV.out.kp0 (Kp.refl No _).drew).lower (Nat.zero_le _)) hne2 hP.1 hP.2.1 hP.2.2.1 hP.2.2.2.1 hP.2.2.2.2.1 hP.2.2.2.2.2.1 hP.2.2.2.2.2.2.1 hP.2.2.2.2.2.2.2).mono ?_
      rintro e w7 ⟨rfl, k7, nd7, T7, s7, t7, p7, b7, sm7, it7⟩
      obtain ⟨hH, hit⟩ := drop1_end hI HW.out HP.out (t := BT.nil) (.inl ⟨rfl, rfl⟩) hnz t7 p7 b7 it7
      have HI7 := hid hit
      have HH := hid hH
      clear hit hH hP sm7 it7 p7 cl ch
      go_wp2_with fail
      refine (fill_any s7 rfl HH.out).mono ?_
      rintro e w8 ⟨rfl, k8, nd8, T8, s8, i8, e8⟩
      have H8 := hid e8
      clear e8
      go_wp2_with fail
      go_ret
      exact ⟨rfl, ((Kp.all k3.drew).trans k7).trans k8, nd8, T8, _, _, s8, i8, it_node HW.out HP.out, H8.out.trans HI7.out⟩
    | node y r1 r2 =>
      simp only [BT.root, Int.natCast_zero] at cl ch
      have hu := (hpi.r.p).1
      have hu0 : (0 : Int) < (y : Int) := by omega
      have hu1 := nz hu
      go_wp2_with fail
      refine (node_any s2 p p1 p2).mono ?_
      rintro e w' ⟨rfl, rfl⟩
      go_wp2_with fail
      refine region_tail 17 (by kernel_rfl) (by kernel_rfl) ?_
      simp only [List.take_succ_cons, List.take_zero, List.drop_succ_cons, List.drop_zero]
      have sD := s2.kp0 (Kp.refl No _).drew
      repeat still_step
      still_call (flp (node_any sD p p1 p2))
      repeat still_step
      still_call (flp (node_any sD p p1 p2))
      repeat still_step
      refine wpStill_nil ?_
      go_wp2_with fail
      have hP := drop1 hI HW.out.plug HW.out.sds (t := (BT.node y r1 r2)) (.inl ⟨rfl, rfl⟩) hnz
      refine (hang_any sD (fs := fs) (t := (BT.node y r1 r2)) (ho := (BT.node p BT.nil (BT.node y r1 r2)).ht) ((HV.out.kp0 (Kp.refl No _).drew).lower (Nat.zero_le _)) hne2 hP.1 hP.2.1 hP.2.2.1 hP.2.2.2.1 hP.2.2.2.2.1 hP.2.2.2.2.2.1 hP.2.2.2.2.2.2.1 hP.2.2.2.2.2.2.2).mono ?_
      rintro e w7 ⟨rfl, k7, nd7, T7, s7, t7, p7, b7, sm7, it7⟩
      obtain ⟨hH, hit⟩ := drop1_end hI HW.out HP.out (t := (BT.node y r1 r2)) (.inl ⟨rfl, rfl⟩) hnz t7 p7 b7 it7
      have HI7 := hid hit
      have HH := hid hH
      clear hit hH hP sm7 it7 p7 cl ch
      go_wp2_with fail
      refine (fill_any s7 rfl HH.out).mono ?_
      rintro e w8 ⟨rfl, k8, nd8, T8, s8, i8, e8⟩
      have H8 := hid e8
      clear e8
      go_wp2_with fail
      go_ret
      exact ⟨rfl, ((Kp.all k3.drew).trans k7).trans k8, nd8, T8, _, _, s8, i8, it_node HW.out HP.out, H8.out.trans HI7.out⟩
  | node z l1 l2 =>
    have hz := (hpi.l.p).1
    have hz0 : (0 : Int) < (z : Int) := by omega
    have hz1 := nz hz
    have hz2 := nz' hz
    cases r with
    | nil =>
      simp only [BT.root, Int.natCast_zero] at cl ch
      go_wp2_with fail
      refine (node_any s2 p p1 p2).mono ?_
      rintro e w' ⟨rfl, rfl⟩
      go_wp2_with fail
      refine (node_any s2 p p1 p2).mono ?_
      rintro e w' ⟨rfl, rfl⟩
      go_wp2_with fail
      refine region_tail 17 (by kernel_rfl) (by kernel_rfl) ?_
      simp only [List.take_succ_cons, List.take_zero, List.drop_succ_cons, List.drop_zero]
      have sD := s2.kp0 (Kp.refl No _).drew
      repeat still_step
      still_call (flp (node_any sD p p1 p2))
      repeat still_step
      still_call (flp (node_any sD p p1 p2))
      repeat still_step
      refine wpStill_nil ?_
      go_wp2_with fail
      have hP := drop1 hI HW.out.plug HW.out.sds (t := (BT.node z l1 l2)) (.inr ⟨rfl, rfl⟩) hnz
      refine (hang_any sD (fs := fs) (t := (BT.node z l1 l2)) (ho := (BT.node p (BT.node z l1 l2) BT.nil).ht) ((HV.out.kp0 (Kp.refl No _).drew).lower (Nat.zero_le _)) hne2 hP.1 hP.2.1 hP.2.2.1 hP.2.2.2.1 hP.2.2.2.2.1 hP.2.2.2.2.2.1 hP.2.2.2.2.2.2.1 hP.2.2.2.2.2.2.2).mono ?_
      rintro e w7 ⟨rfl, k7, nd7, T7, s7, t7, p7, b7, sm7, it7⟩
      obtain ⟨hH, hit⟩ := drop1_end hI HW.out HP.out (t := (BT.node z l1 l2)) (.inr ⟨rfl, rfl⟩) hnz t7 p7 b7 it7
      have HI7 := hid hit
      have HH := hid hH
      clear hit hH hP sm7 it7 p7 cl ch
      go_wp2_with fail
      refine (fill_any s7 rfl HH.out).mono ?_
      rintro e w8 ⟨rfl, k8, nd8, T8, s8, i8, e8⟩
      have H8 := hid e8
      clear e8
      go_wp2_with fail
      go_ret
      exact ⟨rfl, ((Kp.all k3.drew).trans k7).trans k8, nd8, T8, _, _, s8, i8, it_node HW.out HP.out, H8.out.trans HI7.out⟩
    | node y r1 r2 =>
      simp only [BT.root] at cl ch
      have hu := (hpi.r.p).1
      have hu0 : (0 : Int) < (y : Int) := by omega
      have hu1 := nz hu
      have hu2 := nz' hu
      go_wp2_with fail
      refine (node_any s2 p p1 p2).mono ?_
      rintro e w' ⟨rfl, rfl⟩
      go_wp2_with fail
      refine (node_any s2 p p1 p2).mono ?_
      rintro e w' ⟨rfl, rfl⟩
      go_wp2_with fail
      refine (next_any s2 HV.out hs2 (by omega) (by omega) HT.out hpi (by simp) (by simp only [BT.ht] at hfl ⊢; omega)).mono ?_
      rintro e w3 ⟨v3, gs, q, rr, rfl, k4, hv3, hrp, hsd, hlc⟩
      have HR := hid hrp
      have HC := hid hlc
      have HV3 := hid hv3
      clear hrp hlc hv3 cl ch
      have s3 : Sh w3 g b c n nd T.root := s2.kp k4 (by omega) (by omega)
      have hqr : q ∈ (BT.node y r1 r2).pls := by rw [HR.out, plug_pls]; simp [BT.pls]
      obtain ⟨q1, q2⟩ := hpi.r q hqr
      have hqp : q ≠ p := by rintro rfl; exact (nod_iff.1 hNP).pr hqr
      have hTq := (Tr.plug hsd (HR.out ▸ HT.out.2.2.2.2.2)).1
      have e0 := s3.key p1 p2
      have e1 := s3.id p1 p2
      have d0 := s3.key q1 q2
      have d1 := s3.id q1 q2
      have fz := s3.row.frozen
      have HTq := hid hTq
      clear hTq hqr
      go_wp2_with fail
      refine (node_any s3 p p1 p2).mono ?_
      rintro e w' ⟨rfl, rfl⟩
      go_wp2_with fail
      refine (node_any s3 q q1 q2).mono ?_
      rintro e w' ⟨rfl, rfl⟩
      go_wp2_with fail
      have s4 := s3.put2 p1 p2 (nd q).it
      have k5 : Kp (Only b) w3 ((w3.setCell ⟨b, ad p, none⟩ (.int .i64 (nd q).it.key)).setCell ⟨b, ad p + 1, none⟩ (.int .i64 (nd q).it.id)) := (Kp.set1 b _ _ _).trans (Kp.set1 b _ _ _)
      generalize (w3.setCell ⟨b, ad p, none⟩ (.int .i64 (nd q).it.key)).setCell ⟨b, ad p + 1, none⟩ (.int .i64 (nd q).it.id) = w4 at s4 k5 ⊢
      clear e0 e1 d0 d1 fz
      have hne4 : ∀ k, v3.ownBlock = some k → k ≠ g ∧ k ≠ b := fun k hk => by
        have := (World.ownsRow.lt HV3.out k hk).1
        omega
      have hv4 : Ow w4 w1.heap.size 135 2 sc v3 (gs ++ ⟨p, 1, .node z l1 l2⟩ :: fs).reverse := HV3.out.kp k5 fun i hi e => by
        have : i = b := e
        omega
      have cl := s4.lo q1 q2
      have ch := s4.hi q1 q2
      rw [upd_ne nd _ hqp, HTq.out.1] at cl
      rw [upd_ne nd _ hqp, HTq.out.2.1] at ch
      have kk : Hid (Kp (GB g b) w w4) := ((Kp.all k3).step k4 fun i hi h => absurd hi (by omega)).step k5 fun i _ h => .inr h
      have hP := drop2 hI HW.out HR.out hsd hnz
      have hrri : In n rr.pls := fun u hu => hpi.r u (by rw [HR.out, plug_pls]; simp [BT.pls, hu])
      cases rr with
      | nil =>
        simp only [BT.root, Int.natCast_zero] at cl ch
        have sD := s4.kp0 (Kp.refl No _).drew
        refine region_tail 17 (by kernel_rfl) (by kernel_rfl) ?_
        simp only [List.take_succ_cons, List.take_zero, List.drop_succ_cons, List.drop_zero]
        repeat still_step
        still_call (flp (node_any sD q q1 q2))
        repeat still_step
        still_call (flp (node_any sD q q1 q2))
        repeat still_step
        refine wpStill_nil ?_
        go_wp2_with fail
        refine (hang_any sD (fs := gs ++ ⟨p, 1, .node z l1 l2⟩ :: fs) (t := BT.nil) (ho := (BT.node q .nil BT.nil).ht) ((hv4.kp0 (Kp.refl No _).drew).lower (Nat.zero_le _)) hne4 hP.1 hP.2.1 hP.2.2.1 hP.2.2.2.1 hP.2.2.2.2.1 hP.2.2.2.2.2.1 hP.2.2.2.2.2.2.1 hP.2.2.2.2.2.2.2).mono ?_
        rintro e w7 ⟨rfl, k7, nd7, T7, s7, t7, p7, b7, sm7, it7⟩
        obtain ⟨hH, hit⟩ := drop2_end hI HW.out HP.out HR.out hsd HC.out hnz t7 p7 b7 it7
        have HI7 := hid hit
        have HH := hid hH
        clear hit hH hP sm7 it7 p7 cl ch
        go_wp2_with fail
        refine (fill_any s7 rfl HH.out).mono ?_
        rintro e w8 ⟨rfl, k8, nd8, T8, s8, i8, e8⟩
        have H8 := hid e8
        clear e8
        go_wp2_with fail
        go_ret
        exact ⟨rfl, (kk.out.drew.trans k7).trans k8, nd8, T8, _, _, s8, i8, it_node HW.out HP.out, H8.out.trans HI7.out⟩
      | node u rr1 rr2 =>
        simp only [BT.root, Int.natCast_zero] at cl ch
        have hu := (hrri.p).1
        have hu0 : (0 : Int) < (u : Int) := by omega
        have hu1 := nz hu
        have sD := s4.kp0 (Kp.refl No _).drew
        refine region_tail 17 (by kernel_rfl) (by kernel_rfl) ?_
        simp only [List.take_succ_cons, List.take_zero, List.drop_succ_cons, List.drop_zero]
        repeat still_step
        still_call (flp (node_any sD q q1 q2))
        repeat still_step
        still_call (flp (node_any sD q q1 q2))
        repeat still_step
        refine wpStill_nil ?_
        go_wp2_with fail
        refine (hang_any sD (fs := gs ++ ⟨p, 1, .node z l1 l2⟩ :: fs) (t := (BT.node u rr1 rr2)) (ho := (BT.node q .nil (BT.node u rr1 rr2)).ht) ((hv4.kp0 (Kp.refl No _).drew).lower (Nat.zero_le _)) hne4 hP.1 hP.2.1 hP.2.2.1 hP.2.2.2.1 hP.2.2.2.2.1 hP.2.2.2.2.2.1 hP.2.2.2.2.2.2.1 hP.2.2.2.2.2.2.2).mono ?_
        rintro e w7 ⟨rfl, k7, nd7, T7, s7, t7, p7, b7, sm7, it7⟩
        obtain ⟨hH, hit⟩ := drop2_end hI HW.out HP.out HR.out hsd HC.out hnz t7 p7 b7 it7
        have HI7 := hid hit
        have HH := hid hH
        clear hit hH hP sm7 it7 p7 cl ch
        go_wp2_with fail
        refine (fill_any s7 rfl HH.out).mono ?_
        rintro e w8 ⟨rfl, k8, nd8, T8, s8, i8, e8⟩
        have H8 := hid e8
        clear e8
        go_wp2_with fail
        go_ret
        exact ⟨rfl, (kk.out.drew.trans k7).trans k8, nd8, T8, _, _, s8, i8, it_node HW.out HP.out, H8.out.trans HI7.out⟩
end
end Go.Proofs.Ytpbnmfoecmhnnaa
