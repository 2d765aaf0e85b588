/-
  Contracts: count, lift (on either side), level.
-/
import Derived.Test.YtpbnmfoecmhnnaaSMem
namespace Go.Proofs.Ytpbnmfoecmhnnaa
open Go.RowKit

section
variable {w w' : World} {g b c n top : Nat} {nd nd' : Nat → Nd} {S : Nat → Prop}

theorem upd_upd (nd : Nat → Nd) (p : Nat) (x y : Nd) : upd (upd nd p x) p y = upd nd p y := by
  funext q
  unfold upd
  by_cases h : q = p <;> simp [h]
def cnt (nd : Nat → Nd) (p : Nat) (l r : BT) : Nat → Nd := upd nd p { nd p with many := l.sz + 1 + r.sz, deep := max l.ht r.ht + 1 }

theorem count_any (h : Sh w g b c n nd top) (p : Nat) (p1 : 1 ≤ p) (p2 : p ≤ n) {l r : BT} (hlo : (nd p).lo = l.root) (hhi : (nd p).hi = r.root) (hl : Tr nd l) (hr : Tr nd r) (il : In n l.pls) (ir : In n r.pls) (pl : p ∉ l.pls) (pr : p ∉ r.pls) (hz : l.sz + 1 + r.sz ≤ n) :
    Calls Try.prog 96 #[.pointer (some ⟨g, 0, none⟩), .int .i64 (p : Int)] w fun e w' => e = .returned (.tuple #[]) ∧ Kp (Only b) w w' ∧ Sh w' g b c n (cnt nd p l r) top := by
  have hs := h.small
  have c2 := h.lo p1 p2
  have c3 := h.hi p1 p2
  rw [hlo] at c2
  rw [hhi] at c3
  have lh := l.ht_le
  have rh := r.ht_le
  have c4 := h.many p1 p2
  have f4 := h.row.frozen (ad p + 4)
  go_enter Try.func96, Try.ntmps96
  go_wp2_with fail
  refine (node_any h p p1 p2).mono ?_
  rintro e w' ⟨rfl, rfl⟩
  go_wp2_with fail
  go_region
  have h1 : Sh w.drew g b c n nd top := h.kp0 (Kp.refl No w).drew
  go_wp2_with fail
  refine (many_any h1 hl il).mono ?_
  rintro e w' ⟨rfl, rfl⟩
  go_wp2_with fail
  refine (many_any h1 hr ir).mono ?_
  rintro e w' ⟨rfl, rfl⟩
  go_wp2_with fail
  have h2 : Sh (w.drew.setCell ⟨b, ad p + 4, none⟩ (.int .i64 ((l.sz : Int) + 1 + (r.sz : Int)))) g b c n (upd nd p { nd p with many := l.sz + 1 + r.sz }) top :=
    h1.put p1 p2 (by omega) _ (by simp [nc]) (fun j hj hne => by
      match j, hj with
      | 0, _ => rfl
      | 1, _ => rfl
      | 2, _ => rfl
      | 3, _ => rfl
      | 4, _ => exact absurd rfl hne
      | 5, _ => rfl)
  have k2 : Kp (Only b) w (w.drew.setCell ⟨b, ad p + 4, none⟩ (.int .i64 ((l.sz : Int) + 1 + (r.sz : Int)))) := ((Kp.refl (Only b) w).drew).setCell (p := ⟨b, ad p + 4, none⟩) (.inl rfl) _
  have c5 := h2.deep p1 p2
  have f5 := h2.row.frozen (ad p + 5)
  change Calls _ _ _ (w.drew.setCell ⟨b, ad p + 4, none⟩ (.int .i64 ((l.sz : Int) + 1 + (r.sz : Int)))) _
  generalize w.drew.setCell ⟨b, ad p + 4, none⟩ (.int .i64 ((l.sz : Int) + 1 + (r.sz : Int))) = w2 at h2 k2 c5 f5 ⊢
  clear c2 c3 c4 f4
  have hl2 := hl.upd pl { nd p with many := l.sz + 1 + r.sz }
  have hr2 := hr.upd pr { nd p with many := l.sz + 1 + r.sz }
  refine (deep_any h2 hl2 il).mono ?_
  rintro e w' ⟨rfl, rfl⟩
  go_wp2_with fail
  refine (deep_any h2 hr2 ir).mono ?_
  rintro e w' ⟨rfl, rfl⟩
  go_wp2_with fail
  all_goals
    go_end0
    refine ⟨rfl, k2.trans (Kp.set1 _ _ _ _), ?_⟩
    rw [show cnt nd p l r = upd (upd nd p { nd p with many := l.sz + 1 + r.sz }) p { nd p with many := l.sz + 1 + r.sz, deep := max l.ht r.ht + 1 } from (upd_upd _ _ _ _).symm]
    exact h2.put p1 p2 (i := 5) (by omega) _ (by simp only [nc]; congr 1; omega) (fun j hj hne => by
      rw [upd_same]
      match j, hj with
      | 0, _ => rfl
      | 1, _ => rfl
      | 2, _ => rfl
      | 3, _ => rfl
      | 4, _ => rfl
      | 5, _ => exact absurd rfl hne)

/-- A region that draws, of which all but the last operations read or call quietly: those in the order of the text, then the rest. -/
theorem region_tail {P : Program} {id : Nat} {Q : Exit → Act → World → Prop} {a : Act} {w : World} {l : List Oper} (n : Nat) (hm : P.follows .mixedOrders = true) (hB : Region.lexTailB .any l.toArray n = true)
    (h : wpStill P l.toArray w.drew (fun a' => wpList P l.toArray Q (l.drop n) a' w.drew) (l.take n) a) : (Code.region id l.toArray true).wp P Q a w := wp_region_still_tail n hm hB h

theorem flp {P : Program} {f : Nat} {args : Array Value} {w : World} {x : Ending} (h : Calls P f args w fun e w' => e = x ∧ w = w') : Calls P f args w fun e w' => e = x ∧ w' = w := h.mono fun _ _ h => ⟨h.1, h.2.symm⟩

/-- What a lift leaves of the nodes. -/
structure Lift (nd nd' : Nat → Nd) (at' up : Nat) : Prop where
  same : ∀ q, q ≠ at' → q ≠ up → nd' q = nd q
  item : ∀ q, (nd' q).it = (nd q).it

set_option maxRecDepth 100000 in
set_option maxHeartbeats 400000 in
theorem lift0_any (h : Sh w g b c n nd top) (p u : Nat) {x y z : BT} (hpu : (nd p).lo = u) (hpz : (nd p).hi = z.root) (hux : (nd u).lo = x.root) (huy : (nd u).hi = y.root) (hx : Tr nd x) (hy : Tr nd y) (hz : Tr nd z)
    (hn : (BT.node p (.node u x y) z).pls.Nodup) (hi : In n (BT.node p (.node u x y) z).pls) :
    Calls Try.prog 97 #[.pointer (some ⟨g, 0, none⟩), .int .i64 (p : Int), .int .i64 0] w fun e w' => e = .returned (.int .i64 (u : Int)) ∧ Kp (Only b) w w' ∧ ∃ nd', Sh w' g b c n nd' top ∧ Tr nd' (.node u x (.node p y z)) ∧ Lift nd nd' p u := by
  obtain ⟨p1, p2⟩ := hi p (by simp [BT.pls])
  obtain ⟨u1, u2⟩ := hi u (by simp [BT.pls])
  have ix : In n x.pls := fun q hq => hi q (by simp [BT.pls, hq])
  have iy : In n y.pls := fun q hq => hi q (by simp [BT.pls, hq])
  have iz : In n z.pls := fun q hq => hi q (by simp [BT.pls, hq])
  have hlen := hi.len hn
  have hne : u ≠ p ∧ p ∉ x.pls ∧ p ∉ y.pls ∧ p ∉ z.pls ∧ u ∉ x.pls ∧ u ∉ y.pls ∧ u ∉ z.pls := by
    simp only [BT.pls, List.nodup_append, List.nodup_cons, List.mem_append, List.mem_cons] at hn
    grind
  obtain ⟨hup, px, py, pz, ux, uy, uz⟩ := hne
  have hle : x.sz + 1 + (y.sz + 1 + z.sz) ≤ n := by
    simp only [BT.pls, List.length_append, List.length_cons] at hlen
    simp only [BT.sz]
    omega
  have c2 := h.lo p1 p2
  have d3 := h.hi u1 u2
  have f2 := h.row.frozen (ad p + 2)
  rw [hpu] at c2
  rw [huy] at d3
  go_enter Try.func97, Try.ntmps97
  go_wp2_with fail
  refine (node_any h p p1 p2).mono ?_
  rintro e w' ⟨rfl, rfl⟩
  go_wp2_with fail
  have h1 : Sh w.drew g b c n nd top := h.kp0 (Kp.refl No w).drew
  refine region_tail 15 (by kernel_rfl) (by kernel_rfl) ?_
  simp only [List.take_succ_cons, List.take_zero, List.drop_succ_cons, List.drop_zero]
  repeat still_step
  still_call (flp (node_any h1 p p1 p2))
  repeat still_step
  still_call (flp (node_any h1 u u1 u2))
  repeat still_step
  refine wpStill_nil ?_
  go_wp2_with fail
  have h2 : Sh (w.setCell ⟨b, ad p + 2, none⟩ (.int .i64 (y.root : Int))).drew g b c n (upd nd p { nd p with lo := y.root }) top :=
    (h.put p1 p2 (i := 2) (by omega) _ rfl (fun j hj hne => by
      match j, hj with
      | 0, _ => rfl
      | 1, _ => rfl
      | 2, _ => exact absurd rfl hne
      | 3, _ => rfl
      | 4, _ => rfl
      | 5, _ => rfl
      )).kp0 (Kp.refl No _).drew
  have k2 : Kp (Only b) w (w.setCell ⟨b, ad p + 2, none⟩ (.int .i64 (y.root : Int))).drew := ((Kp.refl (Only b) w).setCell (p := ⟨b, ad p + 2, none⟩) (.inl rfl) _).drew
  generalize (w.setCell ⟨b, ad p + 2, none⟩ (.int .i64 (y.root : Int))).drew = w2 at h2 k2 ⊢
  have H2 := hid (upd_ne nd { nd p with lo := y.root } hup)
  have d4 := h2.hi u1 u2
  have f4 := h2.row.frozen (ad u + 2 + 1)
  clear c2 d3 f2
  refine (node_any h2 u u1 u2).mono ?_
  rintro e w' ⟨rfl, rfl⟩
  go_wp2_with fail
  have h3 : Sh (w2.setCell ⟨b, ad u + 2 + 1, none⟩ (.int .i64 (p : Int))) g b c n (upd (upd nd p { nd p with lo := y.root }) u { nd u with hi := p }) top :=
    h2.put u1 u2 (i := 3) (by omega) _ rfl (fun j hj hne => by
      rw [H2.out]
      match j, hj with
      | 0, _ => rfl
      | 1, _ => rfl
      | 2, _ => rfl
      | 3, _ => exact absurd rfl hne
      | 4, _ => rfl
      | 5, _ => rfl
      )
  have k3 := k2.trans (Kp.set1 b (ad u + 2 + 1) w2 (.int .i64 (p : Int)))
  generalize w2.setCell ⟨b, ad u + 2 + 1, none⟩ (.int .i64 (p : Int)) = w3 at h3 k3 ⊢
  clear d4 f4
  have tx := (hx.upd px { nd p with lo := y.root }).upd ux { nd u with hi := p }
  have ty := (hy.upd py { nd p with lo := y.root }).upd uy { nd u with hi := p }
  have tz := (hz.upd pz { nd p with lo := y.root }).upd uz { nd u with hi := p }
  have ep : upd (upd nd p { nd p with lo := y.root }) u { nd u with hi := p } p = { nd p with lo := y.root } := by rw [upd_ne _ _ (Ne.symm hup), upd_same]
  have eu : upd (upd nd p { nd p with lo := y.root }) u { nd u with hi := p } u = { nd u with hi := p } := upd_same _ _ _
  have eo : ∀ q, q ≠ p → q ≠ u → upd (upd nd p { nd p with lo := y.root }) u { nd u with hi := p } q = nd q := fun q h1 h2 => by rw [upd_ne _ _ h2, upd_ne _ _ h1]
  generalize upd (upd nd p { nd p with lo := y.root }) u { nd u with hi := p } = nd3 at h3 tx ty tz ep eu eo
  have Ep := hid ep
  have Eu := hid eu
  have Eo := hid eo
  clear ep eu eo
  refine (count_any h3 p p1 p2 (l := y) (r := z) (by rw [Ep.out]) (by rw [Ep.out]; exact hpz) ty tz iy iz py pz (by omega)).mono ?_
  rintro e w4 ⟨rfl, k4, h4⟩
  have sm : ∀ q, q ≠ p → cnt nd3 p y z q = nd3 q := fun q hq => upd_ne _ _ hq
  have ex : ∀ {t : BT}, p ∉ t.pls → Tr nd3 t → Tr (cnt nd3 p y z) t := fun hp ht => ht.upd hp _
  have tp : Tr (cnt nd3 p y z) (.node p y z) := by
    refine ⟨?_, ?_, ?_, ?_, ex py ty, ex pz tz⟩ <;> simp only [cnt, upd_same]
    · rw [Ep.out]
    · rw [Ep.out]; exact hpz
  have T4 := ex px tx
  have Sm := hid sm
  have Ex := hid (upd_same nd3 p { nd3 p with many := y.sz + 1 + z.sz, deep := max y.ht z.ht + 1 })
  clear sm ex
  go_wp2_with fail
  refine (count_any h4 u u1 u2 (l := x) (r := (.node p y z)) (by rw [Sm.out u hup, Eu.out]; exact hux) (by rw [Sm.out u hup, Eu.out]; rfl) T4 tp ix (fun q hq => hi q (by simp only [BT.pls, List.mem_append, List.mem_cons] at hq ⊢; grind)) ux (by simp only [BT.pls, List.mem_append, List.mem_cons]; grind) (by rw [BT.sz_node]; omega)).mono ?_
  rintro e w5 ⟨rfl, k5, h5⟩
  go_wp2_with fail
  go_ret
  refine ⟨rfl, (k3.trans k4).trans k5, _, h5, ?_, ?_⟩
  · have e5 : ∀ {t : BT}, u ∉ t.pls → Tr (cnt nd3 p y z) t → Tr (cnt (cnt nd3 p y z) u x (.node p y z)) t := fun hp ht => ht.upd hp _
    refine ⟨?_, ?_, ?_, ?_, e5 ux T4, e5 (by simp only [BT.pls, List.mem_append, List.mem_cons]; grind) tp⟩ <;> simp only [cnt, upd_same]
    · show (cnt nd3 p y z u).lo = _
      rw [Sm.out u hup, Eu.out]; exact hux
    · show (cnt nd3 p y z u).hi = _
      rw [Sm.out u hup, Eu.out]; rfl
  · refine ⟨fun q h1 h2 => ?_, fun q => ?_⟩
    · rw [show cnt (cnt nd3 p y z) u x (.node p y z) q = cnt nd3 p y z q from upd_ne _ _ h2, Sm.out q h1, Eo.out q h1 h2]
    · by_cases q1 : q = u
      · subst q1
        rw [show (cnt (cnt nd3 p y z) q x (.node p y z) q).it = (cnt nd3 p y z q).it by simp only [cnt, upd_same], Sm.out q hup, Eu.out]
      · rw [show cnt (cnt nd3 p y z) u x (.node p y z) q = cnt nd3 p y z q from upd_ne _ _ q1]
        by_cases q2 : q = p
        · subst q2
          rw [show (cnt nd3 q y z q).it = (nd3 q).it by simp only [cnt, upd_same], Ep.out]
        · rw [Sm.out q q2, Eo.out q q2 q1]

set_option maxRecDepth 100000 in
set_option maxHeartbeats 400000 in
theorem lift1_any (h : Sh w g b c n nd top) (p u : Nat) {x y z : BT} (hpu : (nd p).hi = u) (hpz : (nd p).lo = z.root) (hux : (nd u).hi = x.root) (huy : (nd u).lo = y.root) (hx : Tr nd x) (hy : Tr nd y) (hz : Tr nd z)
    (hn : (BT.node p z (.node u y x)).pls.Nodup) (hi : In n (BT.node p z (.node u y x)).pls) :
    Calls Try.prog 97 #[.pointer (some ⟨g, 0, none⟩), .int .i64 (p : Int), .int .i64 1] w fun e w' => e = .returned (.int .i64 (u : Int)) ∧ Kp (Only b) w w' ∧ ∃ nd', Sh w' g b c n nd' top ∧ Tr nd' (.node u (.node p z y) x) ∧ Lift nd nd' p u := by
  obtain ⟨p1, p2⟩ := hi p (by simp [BT.pls])
  obtain ⟨u1, u2⟩ := hi u (by simp [BT.pls])
  have ix : In n x.pls := fun q hq => hi q (by simp [BT.pls, hq])
  have iy : In n y.pls := fun q hq => hi q (by simp [BT.pls, hq])
  have iz : In n z.pls := fun q hq => hi q (by simp [BT.pls, hq])
  have hlen := hi.len hn
  have hne : u ≠ p ∧ p ∉ x.pls ∧ p ∉ y.pls ∧ p ∉ z.pls ∧ u ∉ x.pls ∧ u ∉ y.pls ∧ u ∉ z.pls := by
    simp only [BT.pls, List.nodup_append, List.nodup_cons, List.mem_append, List.mem_cons] at hn
    grind
  obtain ⟨hup, px, py, pz, ux, uy, uz⟩ := hne
  have hle : x.sz + 1 + (y.sz + 1 + z.sz) ≤ n := by
    simp only [BT.pls, List.length_append, List.length_cons] at hlen
    simp only [BT.sz]
    omega
  have c2 := h.hi p1 p2
  have d3 := h.lo u1 u2
  have f2 := h.row.frozen (ad p + 2 + 1)
  rw [hpu] at c2
  rw [huy] at d3
  go_enter Try.func97, Try.ntmps97
  go_wp2_with fail
  refine (node_any h p p1 p2).mono ?_
  rintro e w' ⟨rfl, rfl⟩
  go_wp2_with fail
  have h1 : Sh w.drew g b c n nd top := h.kp0 (Kp.refl No w).drew
  refine region_tail 15 (by kernel_rfl) (by kernel_rfl) ?_
  simp only [List.take_succ_cons, List.take_zero, List.drop_succ_cons, List.drop_zero]
  repeat still_step
  still_call (flp (node_any h1 p p1 p2))
  repeat still_step
  still_call (flp (node_any h1 u u1 u2))
  repeat still_step
  refine wpStill_nil ?_
  go_wp2_with fail
  have h2 : Sh (w.setCell ⟨b, ad p + 2 + 1, none⟩ (.int .i64 (y.root : Int))).drew g b c n (upd nd p { nd p with hi := y.root }) top :=
    (h.put p1 p2 (i := 3) (by omega) _ rfl (fun j hj hne => by
      match j, hj with
      | 0, _ => rfl
      | 1, _ => rfl
      | 2, _ => rfl
      | 3, _ => exact absurd rfl hne
      | 4, _ => rfl
      | 5, _ => rfl
      )).kp0 (Kp.refl No _).drew
  have k2 : Kp (Only b) w (w.setCell ⟨b, ad p + 2 + 1, none⟩ (.int .i64 (y.root : Int))).drew := ((Kp.refl (Only b) w).setCell (p := ⟨b, ad p + 2 + 1, none⟩) (.inl rfl) _).drew
  generalize (w.setCell ⟨b, ad p + 2 + 1, none⟩ (.int .i64 (y.root : Int))).drew = w2 at h2 k2 ⊢
  have H2 := hid (upd_ne nd { nd p with hi := y.root } hup)
  have d4 := h2.lo u1 u2
  have f4 := h2.row.frozen (ad u + 2)
  clear c2 d3 f2
  refine (node_any h2 u u1 u2).mono ?_
  rintro e w' ⟨rfl, rfl⟩
  go_wp2_with fail
  have h3 : Sh (w2.setCell ⟨b, ad u + 2, none⟩ (.int .i64 (p : Int))) g b c n (upd (upd nd p { nd p with hi := y.root }) u { nd u with lo := p }) top :=
    h2.put u1 u2 (i := 2) (by omega) _ rfl (fun j hj hne => by
      rw [H2.out]
      match j, hj with
      | 0, _ => rfl
      | 1, _ => rfl
      | 2, _ => exact absurd rfl hne
      | 3, _ => rfl
      | 4, _ => rfl
      | 5, _ => rfl
      )
  have k3 := k2.trans (Kp.set1 b (ad u + 2) w2 (.int .i64 (p : Int)))
  generalize w2.setCell ⟨b, ad u + 2, none⟩ (.int .i64 (p : Int)) = w3 at h3 k3 ⊢
  clear d4 f4
  have tx := (hx.upd px { nd p with hi := y.root }).upd ux { nd u with lo := p }
  have ty := (hy.upd py { nd p with hi := y.root }).upd uy { nd u with lo := p }
  have tz := (hz.upd pz { nd p with hi := y.root }).upd uz { nd u with lo := p }
  have ep : upd (upd nd p { nd p with hi := y.root }) u { nd u with lo := p } p = { nd p with hi := y.root } := by rw [upd_ne _ _ (Ne.symm hup), upd_same]
  have eu : upd (upd nd p { nd p with hi := y.root }) u { nd u with lo := p } u = { nd u with lo := p } := upd_same _ _ _
  have eo : ∀ q, q ≠ p → q ≠ u → upd (upd nd p { nd p with hi := y.root }) u { nd u with lo := p } q = nd q := fun q h1 h2 => by rw [upd_ne _ _ h2, upd_ne _ _ h1]
  generalize upd (upd nd p { nd p with hi := y.root }) u { nd u with lo := p } = nd3 at h3 tx ty tz ep eu eo
  have Ep := hid ep
  have Eu := hid eu
  have Eo := hid eo
  clear ep eu eo
  refine (count_any h3 p p1 p2 (l := z) (r := y) (by rw [Ep.out]; exact hpz) (by rw [Ep.out]) tz ty iz iy pz py (by omega)).mono ?_
  rintro e w4 ⟨rfl, k4, h4⟩
  have sm : ∀ q, q ≠ p → cnt nd3 p z y q = nd3 q := fun q hq => upd_ne _ _ hq
  have ex : ∀ {t : BT}, p ∉ t.pls → Tr nd3 t → Tr (cnt nd3 p z y) t := fun hp ht => ht.upd hp _
  have tp : Tr (cnt nd3 p z y) (.node p z y) := by
    refine ⟨?_, ?_, ?_, ?_, ex pz tz, ex py ty⟩ <;> simp only [cnt, upd_same]
    · rw [Ep.out]; exact hpz
    · rw [Ep.out]
  have T4 := ex px tx
  have Sm := hid sm
  have Ex := hid (upd_same nd3 p { nd3 p with many := z.sz + 1 + y.sz, deep := max z.ht y.ht + 1 })
  clear sm ex
  go_wp2_with fail
  refine (count_any h4 u u1 u2 (l := (.node p z y)) (r := x) (by rw [Sm.out u hup, Eu.out]; rfl) (by rw [Sm.out u hup, Eu.out]; exact hux) tp T4 (fun q hq => hi q (by simp only [BT.pls, List.mem_append, List.mem_cons] at hq ⊢; grind)) ix (by simp only [BT.pls, List.mem_append, List.mem_cons]; grind) ux (by rw [BT.sz_node]; omega)).mono ?_
  rintro e w5 ⟨rfl, k5, h5⟩
  go_wp2_with fail
  go_ret
  refine ⟨rfl, (k3.trans k4).trans k5, _, h5, ?_, ?_⟩
  · have e5 : ∀ {t : BT}, u ∉ t.pls → Tr (cnt nd3 p z y) t → Tr (cnt (cnt nd3 p z y) u (.node p z y) x) t := fun hp ht => ht.upd hp _
    refine ⟨?_, ?_, ?_, ?_, e5 (by simp only [BT.pls, List.mem_append, List.mem_cons]; grind) tp, e5 ux T4⟩ <;> simp only [cnt, upd_same]
    · show (cnt nd3 p z y u).lo = _
      rw [Sm.out u hup, Eu.out]; rfl
    · show (cnt nd3 p z y u).hi = _
      rw [Sm.out u hup, Eu.out]; exact hux
  · refine ⟨fun q h1 h2 => ?_, fun q => ?_⟩
    · rw [show cnt (cnt nd3 p z y) u (.node p z y) x q = cnt nd3 p z y q from upd_ne _ _ h2, Sm.out q h1, Eo.out q h1 h2]
    · by_cases q1 : q = u
      · subst q1
        rw [show (cnt (cnt nd3 p z y) q (.node p z y) x q).it = (cnt nd3 p z y q).it by simp only [cnt, upd_same], Sm.out q hup, Eu.out]
      · rw [show cnt (cnt nd3 p z y) u (.node p z y) x q = cnt nd3 p z y q from upd_ne _ _ q1]
        by_cases q2 : q = p
        · subst q2
          rw [show (cnt nd3 q z y q).it = (nd3 q).it by simp only [cnt, upd_same], Ep.out]
        · rw [Sm.out q q2, Eo.out q q2 q1]
end
end Go.Proofs.Ytpbnmfoecmhnnaa
