/-
  JG JH: texts laid into one.
-/
import Derived.Test.YtggmdgdgljlddaaGreatDoorJMath
import Derived.Test.YtggmdgdgljlddaaGreatDoorPSec
import Derived.Test.YtggmdgdgljlddaaGreatDoorZSame
import Derived.Test.YtggmdgdgljlddaaGreatDoorJF
import Derived.Test.YtggmdgdgljlddaaGreatDoorZIds

/-
  Contracts of slices.Equal at ints, and of image's kinds and paired.
-/
namespace Go.Proofs.YtggmdgdgljlddaaGreatDoor
open Go.RowKit Go.Shelf

section
variable {w : World} {P Q : Nat → Prop} {v u : Value}
set_option maxRecDepth 100000 in
set_option maxHeartbeats 1000000 in
theorem eqlI_any {xs ys : List Int} (h : Rw 1 zI 0 w P v xs) (h' : Rw 1 zI 0 w Q u ys) : Calls Tryz.prog 22 #[v, u] w fun e w' => e = .returned (.bool (decide (xs = ys))) ∧ Kp No w w' := by
  have HX := hid h
  have HY := hid h'
  obtain ⟨A, c, rfl, hc, hm, _⟩ := h
  obtain ⟨B, d, rfl, hd, hn, _⟩ := h'
  unfold maxLen at hm hn
  obtain ⟨n, en⟩ : ∃ n, xs.length = n := ⟨_, rfl⟩
  obtain ⟨m, em⟩ : ∃ m, ys.length = m := ⟨_, rfl⟩
  rw [en] at HX hc ⊢
  rw [em] at HY hd ⊢
  have HN := hid en
  have HM := hid em
  obtain ⟨r, hr⟩ : ∃ r, decide (xs = ys) = r := ⟨_, rfl⟩
  rw [hr]
  have HR := hid hr
  clear en em hr
  by_cases e1 : n = m
  · subst e1
    have e1' : ((n : Int) != (n : Int)) = false := by simp
    go_enter Tryz.func22, Tryz.ntmps22
    go_wp2_with fail
    go_loopw [13] (fun i wr => ∃ k : Nat, k ≤ n ∧ i = .int .i64 (k : Int) ∧ Hid (xs.take k = ys.take k) ∧ Hid (Kp No w wr)) (fun i _ => n - (vI i).toNat)
    case atStart => exact ⟨0, Nat.zero_le _, rfl, hid (by simp), hid (Kp.refl _ _)⟩
    case round =>
      obtain ⟨k, hk, rfl, HE, KW⟩ := hrel
      by_cases hkn : k < n
      · have hkl : k < xs.length := by rw [HN.out]; exact hkn
        have hkl' : k < ys.length := by rw [HM.out]; exact hkn
        have Ov := HX.out.kp0 KW.out
        have Ov' := HY.out.kp0 KW.out
        obtain ⟨b, off, rfl⟩ := Ov.there (by omega)
        obtain ⟨b', off', rfl⟩ := Ov'.there (by omega)
        have q0 := Ov.cell (j := k) (i := 0) (Kp.refl No _) hkl (by omega) rfl
        have r0 := Ov'.cell (j := k) (i := 0) (Kp.refl No _) hkl' (by omega) rfl
        simp only [zI, Nat.mul_one, Nat.add_zero] at q0 r0
        have HXE := hid (take_eq 0 HE.out hkl hkl')
        obtain ⟨x, hx⟩ : ∃ x, xs.getD k 0 = x := ⟨_, rfl⟩
        obtain ⟨y, hy⟩ : ∃ y, ys.getD k 0 = y := ⟨_, rfl⟩
        have HXX := hid (fun (e : xs = ys) => show x = y by rw [← hx, ← hy, e])
        rw [hx, hy] at HXE
        rw [hx] at q0
        rw [hy] at r0
        have hg1 : (k : Int) < (n : Int) := by omega
        have hwk := wrapI (x := (k : Int) + 1) (by unfold I64; omega)
        clear Ov Ov' hx hy
        by_cases exy : x = y
        · have hne : (x != y) = false := by simp [exy]
          have HXY := hid exy
          clear exy
          go_upto_region 6 with fail
          go_region
          all_goals (
            go_wp2_with fail
            go_roundw
            case rel => exact ⟨k + 1, by omega, by go_num, hid (HXE.out HXY.out), hid KW.out.drew⟩
            case measure => simp [vI]; omega)
        · have hne : (x != y) = true := by rw [bne_iff_ne]; exact exy
          have HF := hid (show r = false by
            rw [← HR.out, decide_eq_false_iff_not]
            exact fun e => exy (HXX.out e))
          clear exy
          go_upto_region 6 with fail
          go_region
          all_goals (
            go_wp2_with fail
            go_ret
            exact ⟨by rw [HF.out]; rfl, KW.out.drew⟩)
      · have hkk : k = n := by omega
        subst hkk
        have hng : ¬ (k : Int) < (k : Int) := by omega
        have HGE := hid (show r = true by
          have := HE.out
          rw [List.take_of_length_le (by rw [HN.out]; omega), List.take_of_length_le (by rw [HM.out]; omega)] at this
          rw [← HR.out]
          exact decide_eq_true this)
        go_wp2_with fail
        go_ret
        exact ⟨by rw [HGE.out]; rfl, KW.out⟩
  · have e1' : ((n : Int) != (m : Int)) = true := by rw [bne_iff_ne]; omega
    have HF := hid (show r = false by
      rw [← HR.out, decide_eq_false_iff_not]
      exact fun e => e1 (by rw [← HN.out, ← HM.out, e]))
    go_enter Tryz.func22, Tryz.ntmps22
    go_wp2_with fail
    go_ret
    exact ⟨by rw [HF.out]; rfl, Kp.refl _ _⟩
set_option maxRecDepth 100000 in
set_option maxHeartbeats 1000000 in
theorem kinds_any {ss : List Sv} (h : Ps w P v ss) (hl : ss.length ≤ 1000000) : Calls Tryz.prog 23 #[v] w fun e w' => ∃ u, e = .returned u ∧ Ow w' w.heap.size 3 1 zI u (ss.map Sv.k) ∧ Kp No w w' := by
  have HO := hid h
  obtain ⟨n, hn⟩ : ∃ n, ss.length = n := ⟨_, rfl⟩
  obtain ⟨A, c, rfl, hc, hm⟩ := h.form hn
  have HN := hid hn
  rw [hn] at hl
  clear hn h
  go_enter Tryz.func23, Tryz.ntmps23
  go_wp2_with fail
  go_loopw [3, 8] (fun u i wr => ∃ k : Nat, k ≤ n ∧ i = .int .i64 (k : Int) ∧ Hid (Ow wr w.heap.size 3 1 zI u ((ss.take k).map Sv.k)) ∧ Hid (Kp No w wr)) (fun _ i _ => n - (vI i).toNat)
  case atStart => exact ⟨0, Nat.zero_le _, rfl, hid (Ow.nil _ _ _ _ _), hid (Kp.refl _ _)⟩
  case round =>
    obtain ⟨k, hk, rfl, HW, KW⟩ := hrel
    by_cases hkn : k < n
    · have hkl : k < ss.length := by rw [HN.out]; exact hkn
      obtain ⟨b, o, rfl, ok, c0, c1⟩ := (HO.out.kp0 KW.out).at' (k := k) hkl
      obtain ⟨B, bc, hb, _, _⟩ := ok.form (n := (ss.getD k sv0).bl.length) rfl
      have HS := hid (take_s ss hkl sv0)
      obtain ⟨x, hx⟩ : ∃ x, ss.getD k sv0 = x := ⟨_, rfl⟩
      rw [hx] at c0 c1 HS hb
      rw [hb] at c1
      obtain ⟨bn, hbn⟩ : ∃ bn, x.bl.length = bn := ⟨_, rfl⟩
      rw [hbn] at c1
      have hlen : ((ss.take k).map Sv.k).length = k := by rw [List.length_map, List.length_take]; omega
      have HL := hid hlen
      have hg1 : (k : Int) < (n : Int) := by omega
      have hwk := wrapI (x := (k : Int) + 1) (by unfold I64; omega)
      have KA := hid ((KW.out.alloc (.cells #[.int .i64 x.k, .slice B bn bc] 36)).alloc (.cells #[.int .i64 x.k] 3))
      have OA := hid (HW.out.kp0 (((Kp.refl No wr).alloc (.cells #[.int .i64 x.k, .slice B bn bc] 36)).alloc (.cells #[.int .i64 x.k] 3)))
      have z0 := (Blk.new (wr.alloc (.cells #[.int .i64 x.k, .slice B bn bc] 36)) 3 #[.int .i64 x.k]).cell 0
      rw [World.size_alloc] at z0
      have HZ := hid z0
      clear ok hb hx hlen z0 hbn
      go_wp2_with (first
        | (at_builtin
           refine wp_app1 usI zI_one rfl (.tmp 12) (.tmp 15) rfl (base := w.heap.size) (xs := (ss.take k).map Sv.k) (y := x.k) (by exact OA.out) rfl (by
             intro i hi
             match i, hi with
             | 0, _ => exact HZ.out) (by rw [HL.out]; omega) (by rw [HL.out]; simp only [maxLen]; omega) (by exact KA.out.size) ?_
           intro v5 w5 o5 k5 p5
           have O5 := hid o5
           have K5 := hid (KA.out.grown k5 fun i hi => .inr (OA.out.blk hi).1)
           clear o5 k5 p5))
      go_roundw
      case rel => exact ⟨k + 1, by omega, by go_num, hid (by rw [HS.out, List.map_append]; exact O5.out), K5⟩
      case measure => simp [vI]; omega
    · have hkk : k = n := by omega
      subst hkk
      have hng : ¬ (k : Int) < (k : Int) := by omega
      go_wp2_with fail
      go_ret
      have h1 := HW.out
      rw [List.take_of_length_le (by rw [HN.out]; omega)] at h1
      exact ⟨_, rfl, h1, KW.out⟩

set_option maxRecDepth 100000 in
theorem paired_any {A B : Option Addr} {c d n k m l : Nat} (hk : 0 < k ∧ k ≤ 100) (hl : l ≤ 100) (hn : n ≤ 1000000) (w : World) :
    Calls Tryz.prog 60 #[.slice A n c, .int .i64 (k : Int), .slice B m d, .int .i64 (l : Int)] w fun e w' => e = .returned (.bool (pairB n k m l)) ∧ w' = w := by
  have hP := hid (show pairB n k m l = (decide (n = n / k * k) && decide (m = n / k * l)) from rfl)
  obtain ⟨q, hq⟩ : ∃ q, n / k = q := ⟨_, rfl⟩
  have hqn : q ≤ n := by rw [← hq]; exact Nat.div_le_self n k
  rw [hq] at hP
  have h1 : q * k ≤ 1000000 * 100 := Nat.mul_le_mul (by omega) hk.2
  have h2 : q * l ≤ 1000000 * 100 := Nat.mul_le_mul (by omega) hl
  obtain ⟨a, ha⟩ : ∃ a, q * k = a := ⟨_, rfl⟩
  obtain ⟨b, hb⟩ : ∃ b, q * l = b := ⟨_, rfl⟩
  rw [ha] at hP h1
  rw [hb] at hP h2
  have e1 : (n : Int).tdiv (k : Int) = (q : Int) := by rw [← hq]; simp [Int.tdiv]
  have e2 : (n : Int) / (k : Int) = (q : Int) := by rw [← hq]; simp
  have e3 : (q : Int) * (k : Int) = (a : Int) := by rw [← ha]; simp
  have e4 : (q : Int) * (l : Int) = (b : Int) := by rw [← hb]; simp
  have w1 := wrapI (x := (q : Int)) (by unfold I64; omega)
  have w2 := wrapI (x := (a : Int)) (by unfold I64; omega)
  have w3 := wrapI (x := (b : Int)) (by unfold I64; omega)
  have k0 : ((k : Int) == 0) = false := by rw [beq_eq_false_iff_ne]; omega
  have k00 : ¬ ((k : Int) = 0) := by omega
  clear hq ha hb
  by_cases h3 : n = a
  · have d1 : ((n : Int) == (a : Int)) = true := by rw [beq_iff_eq]; omega
    by_cases h4 : m = b
    · have d2 : ((m : Int) == (b : Int)) = true := by rw [beq_iff_eq]; omega
      have HR := hid (show pairB n k m l = true by rw [hP.out]; simp [h3, h4])
      clear h3 h4
      go_enter Tryz.func60, Tryz.ntmps60
      go_wp2
      go_ret
      exact ⟨by rw [HR.out]; rfl, rfl⟩
    · have d2 : ((m : Int) == (b : Int)) = false := by rw [beq_eq_false_iff_ne]; omega
      have HR := hid (show pairB n k m l = false by rw [hP.out]; simp [h4])
      clear h3 h4
      go_enter Tryz.func60, Tryz.ntmps60
      go_wp2
      go_ret
      exact ⟨by rw [HR.out]; rfl, rfl⟩
  · have d1 : ((n : Int) == (a : Int)) = false := by rw [beq_eq_false_iff_ne]; omega
    have HR := hid (show pairB n k m l = false by rw [hP.out]; simp [h3])
    clear h3
    go_enter Tryz.func60, Tryz.ntmps60
    go_wp2
    go_ret
    exact ⟨by rw [HR.out]; rfl, rfl⟩
end
end Go.Proofs.YtggmdgdgljlddaaGreatDoor

/-
  Facts for image's takeScene: what has been read so far, in memory; a call as one step of a region that draws.
-/
namespace Go.Proofs.YtggmdgdgljlddaaGreatDoor
open Go.RowKit Go.Shelf

theorem step_call {P : Program} {ops : Array Oper} {o : Oper} {a : Act} {w : World} {K : Act → World → Prop} {Q : Exit → Act → World → Prop} {E : Prop} {f : FuncId} {args : Array Value} {v : Value} {R : World → Prop} (hgd : o.guard = none)
    (hr : (execOp a.eval o).run P w = .ok (.enter f args) w) (hc : Calls P f args w fun e w' => e = .returned v ∧ R w') (h : ∀ w', R w' → K (a.put o.dst v) w') : if Region.wanted o (yielded ops a.tmps) = true then Oper.wp P o a w K Q else E := by
  have hw : Region.wanted o (yielded ops a.tmps) = true := by simp [Region.wanted, hgd]
  rw [if_pos hw]
  unfold Oper.wp
  rw [hr]
  simp only [Oper.upon]
  refine Calls.mono hc fun e w' ⟨he, hR⟩ => ?_
  subst he
  exact h w' hR

theorem gsOf_at : ∀ (n : Nat) (a b : List Int) (k : Nat), k < n → (gsOf n a b).getD k gs0 = gOf (a.drop (9 * k)) (b.drop (12 * k))
  | 0, _, _, _, h => by omega
  | n + 1, a, b, 0, _ => rfl
  | n + 1, a, b, k + 1, h => by
    have := gsOf_at n (a.drop 9) (b.drop 12) k (by omega)
    rw [List.drop_drop, List.drop_drop, show 9 + 9 * k = 9 * (k + 1) by omega, show 12 + 12 * k = 12 * (k + 1) by omega] at this
    rw [← this]
    rfl
theorem gsOf_snoc {n : Nat} {a b : List Int} {k : Nat} (h : k < n) : (gsOf n a b).take (k + 1) = (gsOf n a b).take k ++ [gOf (a.drop (9 * k)) (b.drop (12 * k))] := by
  rw [take_s _ (by rw [gsOf_len]; exact h) gs0, gsOf_at n a b k h]
theorem tsOf_snoc : ∀ (k : Nat) {a b : List Int} {l : List TS}, tsOf k a b = some l → aw (a.drop (27 * k)) ≤ 1 → tsOf (k + 1) a b = some (l ++ [tOf (a.drop (27 * k)) (b.drop (8 * k))])
  | 0, a, b, l, h, hw => by
    cases h
    simp only [Nat.mul_zero, List.drop_zero] at hw ⊢
    rw [tsOf, if_pos hw]
    rfl
  | k + 1, a, b, l, h, hw => by
    unfold tsOf at h
    by_cases h0 : aw a ≤ 1
    · rw [if_pos h0, Option.map_eq_some_iff] at h
      obtain ⟨l', hl, rfl⟩ := h
      have e1 : (a.drop 27).drop (27 * k) = a.drop (27 * (k + 1)) := by rw [List.drop_drop, show 27 + 27 * k = 27 * (k + 1) by omega]
      have e2 : (b.drop 8).drop (8 * k) = b.drop (8 * (k + 1)) := by rw [List.drop_drop, show 8 + 8 * k = 8 * (k + 1) by omega]
      have := tsOf_snoc k hl (by rw [e1]; exact hw)
      rw [e1, e2] at this
      rw [tsOf, if_pos h0, this]
      rfl
    · rw [if_neg h0] at h
      cases h
theorem tsOf_bad : ∀ (k : Nat) {n : Nat} {a b : List Int}, k < n → ¬ aw (a.drop (27 * k)) ≤ 1 → tsOf n a b = none
  | 0, n + 1, a, b, _, hw => by
    simp only [Nat.mul_zero, List.drop_zero] at hw
    rw [tsOf, if_neg hw]
  | k + 1, n + 1, a, b, h, hw => by
    have e1 : (a.drop 27).drop (27 * k) = a.drop (27 * (k + 1)) := by rw [List.drop_drop, show 27 + 27 * k = 27 * (k + 1) by omega]
    have := tsOf_bad k (n := n) (a := a.drop 27) (b := b.drop 8) (by omega) (by rw [e1]; exact hw)
    rw [tsOf, this]
    split <;> rfl

section
variable {w w' : World} {g q : Nat} {xs : List Int} {e : Int} {t : TypeId} {cs : Array Value}
/-- A block of other things than bytes is turned. -/
theorem Rd.kpq (h : Rd w g xs e) (hb : Blk w q t cs) (hcs : ∀ (i : Nat) (x : Int), cs[i]? ≠ some (Value.int .u8 x)) (hn : g ≠ q) (k : Kp (Only q) w w') : Rd w' g xs e := by
  obtain ⟨v, hb0, A, c, rfl, hc, hm, hx, hr⟩ := h
  refine ⟨_, hb0.kp k hn, A, c, rfl, hc, hm, hx, fun h0 => ?_⟩
  obtain ⟨b, o, rfl, hbl, hbg, hcell⟩ := hr h0
  have hne : b ≠ q := by
    rintro rfl
    have h2 := hcell 0 h0
    rw [hb.cell] at h2
    exact hcs _ _ h2
  exact ⟨b, o, rfl, Nat.lt_of_lt_of_le hbl k.size, hbg, fun j hj => (k.cell (p := ⟨b, o + j, none⟩) hbl hne).trans (hcell j hj)⟩
end
/-- What has been read so far: two readers, a scene's box, a row of the call's own. -/
structure GT {α : Type} (n : Nat) (te : TypeId) (f : α → Nat → Value) (w0 w : World) (g1 g2 q : Nat) (a b : List Int) (s0 s1 v : Value) (l : List α) : Prop where
  kp : Kp (fun i => i = g1 ∨ i = g2 ∨ i = q) w0 w
  one : Rd w g1 a 0
  two : Rd w g2 b 0
  bx : Blk w q 25 #[s0, s1]
  ow : Ow w w0.heap.size te n f v l
  l1 : g1 < w0.heap.size
  l2 : g2 < w0.heap.size
  lq : q < w0.heap.size
  ne : g1 ≠ g2
  n1 : q ≠ g1
  n2 : q ≠ g2
section
variable {α : Type} {n : Nat} {te : TypeId} {f : α → Nat → Value} {w0 w w' : World} {g1 g2 q : Nat} {a b a' b' : List Int} {s0 s1 v v' : Value} {l l' : List α}
theorem GT.rr (h : GT n te f w0 w g1 g2 q a b s0 s1 v l) : RR w w g1 g2 a b := ⟨Kp.refl _ _, h.one, h.two, h.ne⟩
theorem GT.call (h : GT n te f w0 w g1 g2 q a b s0 s1 v l) (r : RR w w' g1 g2 a' b') : GT n te f w0 w' g1 g2 q a' b' s0 s1 v l :=
  ⟨h.kp.step r.kp fun i _ e => e.elim .inl fun e => .inr (.inl e), r.one, r.two, h.bx.kp r.kp (fun e => e.elim h.n1 h.n2), h.ow.kp r.kp (fun i hi e => by have := h.l1; have := h.l2; omega), h.l1, h.l2, h.lq, h.ne, h.n1, h.n2⟩
theorem GT.kp0 (h : GT n te f w0 w g1 g2 q a b s0 s1 v l) (k : Kp No w w') : GT n te f w0 w' g1 g2 q a b s0 s1 v l :=
  ⟨h.kp.step k fun _ _ e => e.elim, h.one.kp k fun _ _ e => e, h.two.kp k fun _ _ e => e, h.bx.kp0 k, h.ow.kp0 k, h.l1, h.l2, h.lq, h.ne, h.n1, h.n2⟩
theorem GT.app (h : GT n te f w0 w g1 g2 q a b s0 s1 v l) (o : Ow w' w0.heap.size te n f v' l') (k : w.grownBy w' v.ownBlock) : GT n te f w0 w' g1 g2 q a b s0 s1 v' l' := by
  have kA := (Kp.refl (fun i => v.ownBlock = some i) _).grown k fun k hk => .inl hk
  have hb : ∀ i, v.ownBlock = some i → w0.heap.size ≤ i := fun i hi => (h.ow.blk hi).1
  exact ⟨h.kp.step kA fun i hi e => by have := hb i e; omega, h.one.kpg kA fun i hi e => by have := hb i e; have := h.l1; omega, h.two.kpg kA fun i hi e => by have := hb i e; have := h.l2; omega,
    h.bx.kp kA fun e => by have := hb q e; have := h.lq; omega, o, h.l1, h.l2, h.lq, h.ne, h.n1, h.n2⟩
theorem GT.put0 (h : GT n te f w0 w g1 g2 q a b s0 s1 v l) (hs : ∀ x : Int, s0 ≠ Value.int .u8 x) (hs1 : ∀ x : Int, s1 ≠ Value.int .u8 x) (u : Value) : GT n te f w0 (w.setCell ⟨q, 0, none⟩ u) g1 g2 q a b u s1 v l := by
  have k := Kp.set1 q 0 w u
  have hc : ∀ (i : Nat) (x : Int), (#[s0, s1] : Array Value)[i]? ≠ some (.int .u8 x) := fun i x => by
    match i with
    | 0 => simpa using hs x
    | 1 => simpa using hs1 x
    | i + 2 => simp
  have hb := h.bx.put 0 u
  simp only [List.setIfInBounds_toArray, List.set_cons_zero] at hb
  exact ⟨h.kp.step k fun i _ e => .inr (.inr e), h.one.kpq h.bx hc (Ne.symm h.n1) k, h.two.kpq h.bx hc (Ne.symm h.n2) k, hb, h.ow.kp k (fun i hi e => by have e : i = q := e; have := h.lq; omega), h.l1, h.l2, h.lq, h.ne, h.n1, h.n2⟩
theorem GT.put1 (h : GT n te f w0 w g1 g2 q a b s0 s1 v l) (hs : ∀ x : Int, s0 ≠ Value.int .u8 x) (hs1 : ∀ x : Int, s1 ≠ Value.int .u8 x) (u : Value) : GT n te f w0 (w.setCell ⟨q, 1, none⟩ u) g1 g2 q a b s0 u v l := by
  have k := Kp.set1 q 1 w u
  have hc : ∀ (i : Nat) (x : Int), (#[s0, s1] : Array Value)[i]? ≠ some (.int .u8 x) := fun i x => by
    match i with
    | 0 => simpa using hs x
    | 1 => simpa using hs1 x
    | i + 2 => simp
  have hb := h.bx.put 1 u
  simp only [List.setIfInBounds_toArray, List.set_cons_zero, List.set_cons_succ] at hb
  exact ⟨h.kp.step k fun i _ e => .inr (.inr e), h.one.kpq h.bx hc (Ne.symm h.n1) k, h.two.kpq h.bx hc (Ne.symm h.n2) k, hb, h.ow.kp k (fun i hi e => by have e : i = q := e; have := h.lq; omega), h.l1, h.l2, h.lq, h.ne, h.n1, h.n2⟩
/-- How much the first reader has left, told by its cell. -/
def leftOf (w : World) (g : Nat) : Nat := lenOf ((w.cell? ⟨g, 0, none⟩).getD undef)
theorem Rd.leftOf {g : Nat} {xs : List Int} {e : Int} (h : Rd w g xs e) : leftOf w g = xs.length := by
  obtain ⟨v, hb, A, c, rfl, _⟩ := h
  unfold Proofs.YtggmdgdgljlddaaGreatDoor.leftOf
  rw [hb.cell]
  rfl
end
end Go.Proofs.YtggmdgdgljlddaaGreatDoor
