/-
  Contract: next.
-/
import Derived.Test.YtpbnmfoecmhnnaaSG
namespace Go.Proofs.Ytpbnmfoecmhnnaa
open Go.RowKit

section
variable {w w' : World} {g b c n top : Nat} {nd nd' : Nat → Nd} {S : Nat → Prop}

/-- What next leaves. -/
def NextE (w : World) (base : Nat) (p : Nat) (l r : BT) (fs : List Fr) (e : Ending) (w' : World) : Prop :=
  ∃ (v : Value) (gs : List Fr) (q : Nat) (rr : BT), e = .returned (.tuple #[v, .int .i64 (q : Int)]) ∧ Kp (fun k => base ≤ k) w w' ∧ Ow w' base 135 2 sc v (gs ++ ⟨p, 1, l⟩ :: fs).reverse ∧ r = plug gs (.node q .nil rr) ∧ Sds gs ∧ lc gs = []

set_option maxRecDepth 100000 in
set_option maxHeartbeats 1000000 in
theorem next_any (h : Sh w g b c n nd top) {v : Value} {fs : List Fr} {base : Nat} (hv : Ow w base 135 2 sc v fs.reverse) (hbs : base ≤ w.heap.size) (hg : g < base) (hb : b < base) {p : Nat} {l r : BT} (hT : Tr nd (.node p l r)) (hi : In n (BT.node p l r).pls) (hr : r ≠ .nil) (hlen : fs.length + r.ht + 1 ≤ 1000000000) :
    Calls Try.prog 56 #[.pointer (some ⟨g, 0, none⟩), v, .int .i64 (p : Int)] w (NextE w base p l r fs) := by
  obtain ⟨p1, p2⟩ := hi.p
  have HT := hid hT
  have HV := hid hv
  clear hT hv
  go_enter Try.func56, Try.ntmps56
  go_wp2_with fail
  refine wp_scope_pass 0 (fun a' w' => ∃ (gs : List Fr) (t : BT) (V u8 u9 u10 u11 u12 u13 u14 u15 u16 u17 u18 u19 u20 u21 u22 u23 u24 u25 u26 u27 u28 u29 u30 u31 u32 u33 u34 u35 u36 u37 u38 u39 u40 u41 : Value), a' = { tmps := #[.pointer (some ⟨g, 0, none⟩), V, .int .i64 (t.root : Int), undef, undef, undef, .slice none 0 0, .int .i64 0, u8, u9, u10, u11, u12, u13, u14, u15, u16, u17, u18, u19, u20, u21, u22, u23, u24, u25, u26, u27, u28, u29, u30, u31, u32, u33, u34, u35, u36, u37, u38, u39, u40, u41], defers := [] } ∧ Kp (fun k => base ≤ k) w w' ∧ Ow w' base 135 2 sc V (gs ++ ⟨p, 1, l⟩ :: fs).reverse ∧ r = plug gs t ∧ Sds gs ∧ lc gs = [] ∧ t ≠ .nil)
    (fun a' _ => fs.length + r.ht + 2 - lenOf (a'.tmps.getD 1 undef)) rfl ?_ ?_
  · rintro a' w' ⟨gs, t, V, u8, u9, u10, u11, u12, u13, u14, u15, u16, u17, u18, u19, u20, u21, u22, u23, u24, u25, u26, u27, u28, u29, u30, u31, u32, u33, u34, u35, u36, u37, u38, u39, u40, u41, rfl, hk, hv, hp, hsd, hlc, htn⟩
    have s2 : Sh w' g b c n nd top := h.kp hk (by omega) (by omega)
    have hpl := plug_pls gs t
    rw [← hp] at hpl
    have iT : In n t.pls := fun q hq => hi.r q (by rw [hpl]; simp [hq])
    obtain ⟨hTt, _⟩ := Tr.plug hsd (hp ▸ HT.out.2.2.2.2.2)
    have hgl : gs.length + t.ht ≤ r.ht := by rw [hp]; exact plug_ht gs t
    cases t with
    | nil => exact absurd rfl htn
    | node q t1 t2 =>
      obtain ⟨q1, q2⟩ := iT.p
      have cl := s2.lo q1 q2
      rw [hTt.1] at cl
      have HTt := hid hTt
      have hht : 1 ≤ (BT.node q t1 t2).ht := by simp only [BT.ht]; omega
      have HP := hid hp
      have HC := hid hlc
      clear hTt hp hlc htn hpl
      simp only [BT.root]
      cases t1 with
      | nil =>
        rw [show ((BT.nil.root : Nat) : Int) = 0 from rfl] at cl
        go_wp2_with fail
        refine (node_any s2 q q1 q2).mono ?_
        rintro e w' ⟨rfl, rfl⟩
        go_wp2_with fail
        simp only [Exit.jump]
        exact bodyPost_ret (v := .tuple #[V, .int .i64 (q : Int)]) (by simp [results, Try.results56, go_sem]) rfl ⟨V, gs, q, t2, rfl, hk, hv, HP.out, hsd, HC.out⟩
      | node m t3 t4 =>
        have hm := nz (iT.l.p).1
        simp only [BT.root] at cl
        have hsz := hk.size
        go_wp2_with fail
        refine (node_any s2 q q1 q2).mono ?_
        rintro e w2 ⟨rfl, rfl⟩
        go_wp2_with (first
          | (at_builtin
             refine wp_apps usStep sc_one rfl (.tmp 30) (.tmp 33) rfl (base := base) (xs := (gs ++ ⟨p, 1, l⟩ :: fs).reverse) (ys := [⟨q, 0, t2⟩]) (hv.kp0 ((Kp.refl No _).alloc _)) (Rw.step1 _ q 0 t2) (by simp; omega) (by simp [maxLen]; omega) (by simp; omega) ?_
             intro v1 w7 hown1 hk1))
        have k7 : Kp (fun k => base ≤ k) w w7 := (hk.alloc _).trans hk1
        have s7 : Sh w7 g b c n nd top := h.kp k7 (by omega) (by omega)
        have cl7 := s7.lo q1 q2
        rw [HTt.out.1] at cl7
        simp only [BT.root] at cl7
        clear cl
        refine (node_any s7 q q1 q2).mono ?_
        rintro e w' ⟨rfl, rfl⟩
        go_wp2_with fail
        go_step3
        refine ⟨rfl, ⟨⟨q, 0, t2⟩ :: gs, .node m t3 t4, v1, _, _, _, _, _, _, _, _, _, _, _, _, _, _, _, _, _, _, _, _, _, _, _, _, _, _, _, _, _, _, _, _, _, _, rfl, k7, by rw [List.cons_append, List.reverse_cons]; exact hown1, by rw [HP.out]; simp [plug, plug1], ⟨.inl rfl, hsd⟩, by simp [lc, HC.out], by simp⟩, ?_⟩
        show fs.length + r.ht + 2 - lenOf v1 < fs.length + r.ht + 2 - lenOf V
        rw [ow_len hown1, ow_len hv]
        simp
        omega
  · intro pass
    have cl := h.hi p1 p2
    rw [HT.out.2.1] at cl
    go_wp2_with (first
      | (at_builtin
         refine wp_apps usStep sc_one rfl (.tmp 8) (.tmp 11) rfl (base := base) (xs := fs.reverse) (ys := [⟨p, 1, l⟩]) (HV.out.kp0 ((Kp.refl No _).alloc _)) (Rw.step1 _ p 1 l) (by simp; omega) (by simp [maxLen]; omega) (by simp; omega) ?_
         intro v1 w7 hown1 hk1))
    have k7 : Kp (fun k => base ≤ k) w w7 := ((Kp.refl _ w).alloc _).trans hk1
    have s7 : Sh w7 g b c n nd top := h.kp k7 (by omega) (by omega)
    have cl7 := s7.hi p1 p2
    rw [HT.out.2.1] at cl7
    clear cl
    refine (node_any s7 p p1 p2).mono ?_
    rintro e w' ⟨rfl, rfl⟩
    go_wp2_with fail
    go_step3
    have go_on := ‹∀ (a : Act) (w : World), Code.wp _ _ _ a w → _›
    exact go_on _ _ (pass _ _ ⟨[], r, v1, _, _, _, _, _, _, _, _, _, _, _, _, _, _, _, _, _, _, _, _, _, _, _, _, _, _, _, _, _, _, _, _, _, _, rfl, k7, by rw [List.nil_append, List.reverse_cons]; exact hown1, rfl, trivial, rfl, hr⟩)
end
end Go.Proofs.Ytpbnmfoecmhnnaa
