/-
  Contract: fill.
-/
import Derived.Test.YtpbnmfoecmhnnaaSH
namespace Go.Proofs.Ytpbnmfoecmhnnaa
open Go.RowKit

section
variable {w w' : World} {g b c n top : Nat} {nd nd' : Nat → Nd} {S : Nat → Prop}

/-- Items are told apart by their places. -/
theorem Srt.inj {l : List Nat} (h : Srt nd l) {p q : Nat} (hp : p ∈ l) (hq : q ∈ l) (e : (nd p).it = (nd q).it) : p = q := by
  induction l with
  | nil => cases hp
  | cons x l ih =>
    unfold Srt at h
    simp only [List.map_cons, List.pairwise_cons, List.mem_map, forall_exists_index, and_imp, forall_apply_eq_imp_iff₂] at h
    rcases List.mem_cons.1 hp with rfl | hp'
    · rcases List.mem_cons.1 hq with rfl | hq'
      · rfl
      · have := h.1 q hq'
        rw [e, ltB_irr] at this
        cases this
    · rcases List.mem_cons.1 hq with rfl | hq'
      · have := h.1 p hp'
        rw [e, ltB_irr] at this
        cases this
      · exact ih h.2 hp' hq'

/-- All is as it should be, but for a hole. -/
structure Hol (nd : Nat → Nd) (n : Nat) (T : BT) (hole : Nat) : Prop where
  tr : Tr nd T
  bal : Bal T
  nodup : T.pls.Nodup
  len : T.pls.length + 1 = n
  ins : In n T.pls
  srt : Srt nd T.pls
  one : 1 ≤ hole
  le : hole ≤ n
  out : hole ∉ T.pls

theorem Hol.last {T : BT} (h : Hol nd n T n) : Inv nd (n - 1) T := by
  refine ⟨h.tr, h.bal, h.nodup, by have := h.len; omega, fun q hq => ?_, h.srt⟩
  have := h.ins q hq
  have : q ≠ n := by rintro rfl; exact h.out hq
  omega

theorem fill_pure {T l r : BT} {hole : Nat} {fs : List Fr} (h : Hol nd n T hole) (hn : hole ≠ n) (hw : Way nd (nd n).it T fs (.node n l r)) (hs : n ≤ 1000000000) :
    fs.length ≤ 1000000000 ∧ Tr (upd nd hole (nd n)) (.node hole l r) ∧ TrF (upd nd hole (nd n)) fs ∧ (plug fs (.node hole l r)).pls.Nodup ∧ In n (plug fs (.node hole l r)).pls ∧ Bal (.node hole l r) ∧ BalF fs (BT.node n l r).ht := by
  obtain ⟨i1, i2, i3, i4, i5, i6, i7, i8, i9⟩ := h
  have hp := hw.plug
  subst hp
  have hpl := plug_pls fs (.node n l r)
  simp only [BT.pls] at hpl
  have hlen := plug_ht fs (.node n l r)
  have hht := (plug fs (.node n l r)).ht_le
  rw [BT.sz] at hht
  obtain ⟨t1, t2⟩ := Tr.plug hw.sds i1
  obtain ⟨b1, b2⟩ := i2.plug
  have hol : hole ∉ l.pls ∧ hole ∉ r.pls ∧ hole ∉ lc fs ∧ hole ∉ rc fs := by
    rw [hpl] at i9
    simp only [List.mem_append, List.mem_cons, not_or] at i9
    grind
  refine ⟨by omega, ?_, ?_, ?_, ?_, b1, b2⟩
  · obtain ⟨x1, x2, x3, x4, x5, x6⟩ := t1
    exact ⟨by rw [upd_same]; exact x1, by rw [upd_same]; exact x2, by rw [upd_same]; exact x3, by rw [upd_same]; exact x4, x5.upd hol.1 _, x6.upd hol.2.1 _⟩
  · refine t2.ext fun q hq => ?_
    rw [upd_ne nd _ (by
      rintro rfl
      rcases mem_fpl.1 hq with hq | hq
      · exact hol.2.2.1 hq
      · exact hol.2.2.2 hq)]
    exact Shp.refl _
  · rw [plug_pls]
    rw [hpl] at i3
    simp only [BT.pls, List.nodup_append, List.nodup_cons, List.mem_append, List.mem_cons] at i3 ⊢
    grind
  · rw [plug_pls]
    intro q hq
    simp only [BT.pls, List.mem_append, List.mem_cons] at hq
    have : q = hole ∨ q ∈ (plug fs (.node n l r)).pls := by
      rw [hpl]
      simp only [List.mem_append, List.mem_cons]
      grind
    rcases this with rfl | this
    · exact ⟨i7, i8⟩
    · exact i5 q this

theorem fill_end {T T7 l r : BT} {hole : Nat} {fs : List Fr} {nd7 : Nat → Nd} (h : Hol nd n T hole) (hn : hole ≠ n) (hw : Way nd (nd n).it T fs (.node n l r)) (hs : n ≤ 1000000000) (t7 : Tr nd7 T7) (p7 : T7.pls = (plug fs (.node hole l r)).pls) (b7 : Bal T7) (it7 : ∀ q, (nd7 q).it = (upd nd hole (nd n) q).it) :
    Inv nd7 (n - 1) T7 ∧ items nd7 T7 = items nd T := by
  obtain ⟨_, _, _, h4, h5, _, _⟩ := fill_pure h hn hw hs
  obtain ⟨i1, i2, i3, i4, i5, i6, i7, i8, i9⟩ := h
  have hp := hw.plug
  subst hp
  have hpl := plug_pls fs (.node n l r)
  simp only [BT.pls] at hpl
  have hpl7 := plug_pls fs (.node hole l r)
  simp only [BT.pls] at hpl7
  have same : ∀ {m : List Nat}, (∀ q ∈ m, q ∈ (plug fs (.node n l r)).pls) → m.map (fun p => (nd7 p).it) = m.map (fun p => (nd p).it) := fun h => List.map_congr_left fun q hq => by
    rw [it7, upd_ne nd _ (by rintro rfl; exact i9 (h _ hq))]
  have it : items nd7 T7 = items nd (plug fs (.node n l r)) := by
    unfold items
    rw [p7, hpl7, hpl]
    simp only [List.map_append, List.map_cons]
    rw [same (m := lc fs) fun q hq => by rw [hpl]; simp [hq], same (m := rc fs) fun q hq => by rw [hpl]; simp [hq], same (m := l.pls) fun q hq => by rw [hpl]; simp [hq], same (m := r.pls) fun q hq => by rw [hpl]; simp [hq], it7, upd_same]
  have hlen : T7.pls.length = (plug fs (.node n l r)).pls.length := by
    rw [p7, hpl7, hpl]
    simp only [List.length_append, List.length_cons]
  refine ⟨⟨t7, b7, by rw [p7]; exact h4, by omega, fun q hq => ?_, ?_⟩, it⟩
  · have h6 := h5 q (by rw [← p7]; exact hq)
    have : q ≠ n := by
      rintro rfl
      rw [p7, hpl7] at hq
      rw [hpl] at i3
      simp only [List.nodup_append, List.nodup_cons, List.mem_append, List.mem_cons] at i3 hq
      grind
    omega
  · show (items nd7 T7).Pairwise _
    rw [it]
    exact i6

set_option maxRecDepth 100000 in
set_option maxHeartbeats 1000000 in
theorem fill_last (h : Sh w g b c n nd top) {T : BT} (hr : T.root = top) (hH : Hol nd n T n) :
    Calls Try.prog 58 #[.pointer (some ⟨g, 0, none⟩), .int .i64 (n : Int)] w fun e w' => e = .returned (.tuple #[]) ∧ Kp (GB g b) w w' ∧ ∃ nd' T', Sh w' g b c (n - 1) nd' T'.root ∧ Inv nd' (n - 1) T' ∧ items nd' T' = items nd T := by
  subst hr
  have hs := h.small
  have h1 := hH.one
  obtain ⟨_, _, _, hnc, hcm, _⟩ := h.row
  simp only [maxLen] at hcm
  have c0 := h.head.1
  have f0 := h.hd.frozen 0
  go_enter Try.func58, Try.ntmps58
  go_wp2
  go_end0
  exact ⟨rfl, (Kp.set1 g 0 _ _).mono fun i _ h => .inl h, nd, T, ⟨h.hd.put 0 _, (h.row.less (Nat.sub_le n 1)).kp (Kp.set1 g 0 _ _) h.ne, h.ne, by omega⟩, hH.last, rfl⟩

/-- A node that is set whole. -/
theorem Sh.put6 (h : Sh w g b c n nd top) {p : Nat} (h1 : 1 ≤ p) (h2 : p ≤ n) (y : Nd) :
    Sh ((((((w.setCell ⟨b, ad p, none⟩ (.int .i64 y.it.key)).setCell ⟨b, ad p + 1, none⟩ (.int .i64 y.it.id)).setCell ⟨b, ad p + 2, none⟩ (.int .i64 (y.lo : Int))).setCell ⟨b, ad p + 3, none⟩ (.int .i64 (y.hi : Int))).setCell ⟨b, ad p + 4, none⟩ (.int .i64 (y.many : Int))).setCell ⟨b, ad p + 5, none⟩ (.int .i64 (y.deep : Int))) g b c n (upd nd p y) top := by
  have a1 := h.put h1 h2 (i := 0) (by omega) ⟨⟨y.it.key, (nd p).it.id⟩, (nd p).lo, (nd p).hi, (nd p).many, (nd p).deep⟩ rfl (fun j hj hne => by
    match j, hj with
    | 0, _ => exact absurd rfl hne
    | 1, _ => rfl
    | 2, _ => rfl
    | 3, _ => rfl
    | 4, _ => rfl
    | 5, _ => rfl
    )
  have a2 := a1.put h1 h2 (i := 1) (by omega) ⟨y.it, (nd p).lo, (nd p).hi, (nd p).many, (nd p).deep⟩ rfl (fun j hj hne => by
    rw [upd_same]
    match j, hj with
    | 0, _ => rfl
    | 1, _ => exact absurd rfl hne
    | 2, _ => rfl
    | 3, _ => rfl
    | 4, _ => rfl
    | 5, _ => rfl
    )
  have a3 := a2.put h1 h2 (i := 2) (by omega) ⟨y.it, y.lo, (nd p).hi, (nd p).many, (nd p).deep⟩ rfl (fun j hj hne => by
    rw [upd_same]
    match j, hj with
    | 0, _ => rfl
    | 1, _ => rfl
    | 2, _ => exact absurd rfl hne
    | 3, _ => rfl
    | 4, _ => rfl
    | 5, _ => rfl
    )
  have a4 := a3.put h1 h2 (i := 3) (by omega) ⟨y.it, y.lo, y.hi, (nd p).many, (nd p).deep⟩ rfl (fun j hj hne => by
    rw [upd_same]
    match j, hj with
    | 0, _ => rfl
    | 1, _ => rfl
    | 2, _ => rfl
    | 3, _ => exact absurd rfl hne
    | 4, _ => rfl
    | 5, _ => rfl
    )
  have a5 := a4.put h1 h2 (i := 4) (by omega) ⟨y.it, y.lo, y.hi, y.many, (nd p).deep⟩ rfl (fun j hj hne => by
    rw [upd_same]
    match j, hj with
    | 0, _ => rfl
    | 1, _ => rfl
    | 2, _ => rfl
    | 3, _ => rfl
    | 4, _ => exact absurd rfl hne
    | 5, _ => rfl
    )
  have a6 := a5.put h1 h2 (i := 5) (by omega) y rfl (fun j hj hne => by
    rw [upd_same]
    match j, hj with
    | 0, _ => rfl
    | 1, _ => rfl
    | 2, _ => rfl
    | 3, _ => rfl
    | 4, _ => rfl
    | 5, _ => exact absurd rfl hne
    )
  simp only [upd_upd] at a6
  exact a6
theorem Sh.put2 (h : Sh w g b c n nd top) {p : Nat} (h1 : 1 ≤ p) (h2 : p ≤ n) (y : It) :
    Sh ((w.setCell ⟨b, ad p, none⟩ (.int .i64 y.key)).setCell ⟨b, ad p + 1, none⟩ (.int .i64 y.id)) g b c n (upd nd p { nd p with it := y }) top := by
  have a1 := h.put h1 h2 (i := 0) (by omega) ⟨⟨y.key, (nd p).it.id⟩, (nd p).lo, (nd p).hi, (nd p).many, (nd p).deep⟩ rfl (fun j hj hne => by
    match j, hj with
    | 0, _ => exact absurd rfl hne
    | 1, _ => rfl
    | 2, _ => rfl
    | 3, _ => rfl
    | 4, _ => rfl
    | 5, _ => rfl
    )
  have a2 := a1.put h1 h2 (i := 1) (by omega) { nd p with it := y } rfl (fun j hj hne => by
    rw [upd_same]
    match j, hj with
    | 0, _ => rfl
    | 1, _ => exact absurd rfl hne
    | 2, _ => rfl
    | 3, _ => rfl
    | 4, _ => rfl
    | 5, _ => rfl
    )
  simp only [upd_upd] at a2
  exact a2

set_option maxRecDepth 100000 in
set_option maxHeartbeats 1000000 in
theorem fill_move (h : Sh w g b c n nd top) {T : BT} {hole : Nat} (hr : T.root = top) (hH : Hol nd n T hole) (hn : hole ≠ n) :
    Calls Try.prog 58 #[.pointer (some ⟨g, 0, none⟩), .int .i64 (hole : Int)] w fun e w' => e = .returned (.tuple #[]) ∧ Kp (GB g b) w w' ∧ ∃ nd' T', Sh w' g b c (n - 1) nd' T'.root ∧ Inv nd' (n - 1) T' ∧ items nd' T' = items nd T := by
  subst hr
  have hs := h.small
  have h1 := hH.one
  have h2 := hH.le
  have hnp : 1 ≤ n := by omega
  have hin : n ∈ T.pls := by
    refine Decidable.byContradiction fun hx => ?_
    have := In.len (n := n) (l := n :: hole :: T.pls) (fun q hq => by
      simp only [List.mem_cons] at hq
      rcases hq with rfl | rfl | hq
      · exact ⟨hnp, Nat.le_refl _⟩
      · exact ⟨h1, h2⟩
      · exact hH.ins q hq) (by
      rw [List.nodup_cons, List.nodup_cons]
      exact ⟨by simp only [List.mem_cons, not_or]; exact ⟨Ne.symm hn, hx⟩, hH.out, hH.nodup⟩)
    have := hH.len
    simp at *
    omega
  have hmem : (nd n).it ∈ items nd T := List.mem_map.2 ⟨n, hin, rfl⟩
  have HM := hid hmem
  have HIn := hid hin
  obtain ⟨_, _, _, hnc, hcm, _⟩ := h.row
  simp only [maxLen] at hcm
  have c0 := h.head.1
  have ck := h.key hnp (Nat.le_refl n)
  have ci := h.id hnp (Nat.le_refl n)
  have hne : ((hole : Int) != (n : Int)) = true := by rw [bne_iff_ne]; omega
  clear hmem hin
  go_enter Try.func58, Try.ntmps58
  go_wp2_with fail
  refine (node_any h n hnp (Nat.le_refl n)).mono ?_
  rintro e w' ⟨rfl, rfl⟩
  go_wp2_with fail
  refine (way_any h hH.tr rfl hH.ins hH.nodup hH.srt (nd n).it).mono ?_
  intro e w2 he
  obtain ⟨v, fs, p, l, r, rfl, k2, hv, hw, hp⟩ := he.there HM.out
  obtain rfl : p = n := hH.srt.inj (by rw [hw.plug, plug_pls]; simp [BT.pls]) HIn.out hp
  have s2 := h.kp0 k2
  have HW := hid hw
  have HV := hid hv
  clear hp hw hv c0 ck ci
  have e0 := s2.key h1 h2
  have e1 := s2.id h1 h2
  have e2 := s2.lo h1 h2
  have e3 := s2.hi h1 h2
  have e4 := s2.many h1 h2
  have e5 := s2.deep h1 h2
  have d0 := s2.key hnp (Nat.le_refl p)
  have d1 := s2.id hnp (Nat.le_refl p)
  have d2 := s2.lo hnp (Nat.le_refl p)
  have d3 := s2.hi hnp (Nat.le_refl p)
  have d4 := s2.many hnp (Nat.le_refl p)
  have d5 := s2.deep hnp (Nat.le_refl p)
  have fz := s2.row.frozen
  go_wp2_with fail
  refine (node_any s2 hole h1 h2).mono ?_
  rintro e w' ⟨rfl, rfl⟩
  go_wp2_with fail
  refine (node_any s2 p hnp (Nat.le_refl p)).mono ?_
  rintro e w' ⟨rfl, rfl⟩
  go_wp2_with fail
  have s3 := s2.put6 h1 h2 (nd p)
  have k3 : Kp (Only b) w2 ((((((w2.setCell ⟨b, ad hole, none⟩ (.int .i64 (nd p).it.key)).setCell ⟨b, ad hole + 1, none⟩ (.int .i64 (nd p).it.id)).setCell ⟨b, ad hole + 2, none⟩ (.int .i64 ((nd p).lo : Int))).setCell ⟨b, ad hole + 3, none⟩ (.int .i64 ((nd p).hi : Int))).setCell ⟨b, ad hole + 4, none⟩ (.int .i64 ((nd p).many : Int))).setCell ⟨b, ad hole + 5, none⟩ (.int .i64 ((nd p).deep : Int))) :=
    (((((Kp.set1 b _ _ _).trans (Kp.set1 b _ _ _)).trans (Kp.set1 b _ _ _)).trans (Kp.set1 b _ _ _)).trans (Kp.set1 b _ _ _)).trans (Kp.set1 b _ _ _)
  generalize ((((((w2.setCell ⟨b, ad hole, none⟩ (.int .i64 (nd p).it.key)).setCell ⟨b, ad hole + 1, none⟩ (.int .i64 (nd p).it.id)).setCell ⟨b, ad hole + 2, none⟩ (.int .i64 ((nd p).lo : Int))).setCell ⟨b, ad hole + 3, none⟩ (.int .i64 ((nd p).hi : Int))).setCell ⟨b, ad hole + 4, none⟩ (.int .i64 ((nd p).many : Int))).setCell ⟨b, ad hole + 5, none⟩ (.int .i64 ((nd p).deep : Int))) = w3 at s3 k3 ⊢
  have hgl := h.hd.lt
  have hbl := h.row.lt
  have hv3 : Ow w3 w.heap.size 135 2 sc v fs.reverse := HV.out.kp k3 fun i hi e => by
    have : i = b := e
    omega
  have hne3 : ∀ k, v.ownBlock = some k → k ≠ g ∧ k ≠ b := fun k hk => by
    have := (World.ownsRow.lt HV.out k hk).1
    omega
  have hP := fill_pure hH hn HW.out hs
  clear e0 e1 e2 e3 e4 e5 d0 d1 d2 d3 d4 d5 fz
  refine (hang_any s3 (fs := fs) (t := .node hole l r) (ho := (BT.node p l r).ht) (hv3.lower (Nat.zero_le _)) hne3 hP.1 hP.2.1 hP.2.2.1 hP.2.2.2.1 hP.2.2.2.2.1 hP.2.2.2.2.2.1 hP.2.2.2.2.2.2 (by unfold Near; simp only [BT.ht]; omega)).mono ?_
  rintro e w7 ⟨rfl, k7, nd7, T7, s7, t7, p7, b7, sm7, it7⟩
  have c0 := s7.head.1
  have f0 := s7.hd.frozen 0
  obtain ⟨z1, z2⟩ := fill_end hH hn HW.out hs t7 p7 b7 it7
  have Z2 := hid z2
  have K7 : Hid (Kp (GB g b) w w7) := ((Kp.all k2).step k3 fun i _ h => .inr h).step k7 fun i _ h => h
  clear k7 k3 k2 z2 sm7 it7 p7
  go_wp2_with fail
  go_end0
  exact ⟨rfl, K7.out.setCell (p := ⟨g, 0, none⟩) (.inl (.inl rfl)) _, nd7, T7, ⟨s7.hd.put 0 _, (s7.row.less (Nat.sub_le p 1)).kp (Kp.set1 g 0 _ _) s7.ne, s7.ne, by omega⟩, z1, Z2.out⟩

theorem fill_any (h : Sh w g b c n nd top) {T : BT} {hole : Nat} (hr : T.root = top) (hH : Hol nd n T hole) :
    Calls Try.prog 58 #[.pointer (some ⟨g, 0, none⟩), .int .i64 (hole : Int)] w fun e w' => e = .returned (.tuple #[]) ∧ Kp (GB g b) w w' ∧ ∃ nd' T', Sh w' g b c (n - 1) nd' T'.root ∧ Inv nd' (n - 1) T' ∧ items nd' T' = items nd T := by
  by_cases e : hole = n
  · subst e
    exact fill_last h hr hH
  · exact fill_move h hr hH e
end
end Go.Proofs.Ytpbnmfoecmhnnaa
