/-
  Contract of Copy: a range over a map, in whatever order.
-/
import Derived.Test.YtabampeipfbdjaaNLawB
import Derived.Test.YtabampeipfbdjaaStill
import Derived.Maps.RangeWalk
import Derived.Lib.SlKeysI
namespace Go.Proofs.Ytabampeipfbdjaa
open Go.RowKit

section
variable {H : Type} {P : Program} {k : TypeId} {R : Value → Option (DataW H × List MemPlace)} {w w' : World} {b r n : Nat} {D : DataW H} {left : Lit → Bool} {cn : Nat} {S : Nat → Prop}
theorem ranges_kp (h : w.ranges P k R b r n D left cn) (kk : Kp S w w') (h1 : ¬ S b) (h2 : ¬ S r) : w'.ranges P k R b r n D left cn := by
  have g1 := h.owns.lt
  have g2 := h.lt
  obtain ⟨es, clock, since, seen, c0, hb, F, hs, hD, hr, rest⟩ := h
  exact ⟨es, clock, since, seen, c0, (kk.block b g1 h1).trans hb, F, hs, hD, (kk.block r g2 h2).trans hr, rest⟩
end
theorem RVg_inv (v : Value) (y : DataW Unit × List MemPlace) (h : RV gev genc v = some y) : ∃ c, v = gev c := by
  unfold RV at h
  split at h
  · rename_i hx
    exact ⟨hx.choose, hx.choose_spec.symm⟩
  · cases h
theorem genc_inj {a b : Gr} (h : genc a = genc b) : a = b := gK.inj a b h
section
variable {ops : Array Oper} {rest : List Oper} {o : Oper} {a : Act} {w w' : World} {Q : Exit → Act → World → Prop} {m : Nat} {f : Int → Option Gr}
/-- The range's step. -/
theorem wp_nextg (hg : o.guard = none) (it : Operand) (hop : o.op = Op.next it false) {D : DataW Unit} {left : Lit → Bool} {r n cn : Nat} (hit : a.eval it = .pointer (some ⟨r, 0, none⟩)) (h : w.ranges Try.prog 3 (RV gev genc) m r n D left cn)
    (hL : ∀ k : Int, left (.int .i64 k) = true → ∃ a, f k = some a ∧ ∀ y, D.atKey (.int .i64 k) y = genc a)
    (hDone : (∀ kl, left kl = false) → wpList Try.prog ops Q rest (a.put o.dst (.tuple #[.bool false])) w)
    (hMore : ∀ (x p : Int) (b : Option Nat) (n0 c0 : Nat) (w1 : World) (cn1 : Nat), I64 x → Hid (f x = some ⟨p, b, n0, c0⟩) → Hid (left (.int .i64 x) = true) → Hid (w1.ranges Try.prog 3 (RV gev genc) m r n D (fun z => left z && !z.sameKey (.int .i64 x)) cn1) → Hid (cn1 < cn) → Hid (Kp (Only r) w w1) → w1.heap.size = w.heap.size →
      (Instr.entry (.pointer (some ⟨r, 0, none⟩))).run Try.prog w1 = .ok (.tuple #[.int .i64 x, .agg #[.int .i64 p, .slice (ga b) n0 c0]]) w1 → wpList Try.prog ops Q rest (a.put o.dst (.tuple #[.bool true, .int .i64 x, .agg #[.int .i64 p, .slice (ga b) n0 c0]])) w1) : wpList Try.prog ops Q (o :: rest) a w := by
  refine wpList_next_ranges w hg it hop 3 gK.keyed (RV gev genc) (Value.int .i64) gev (fun key kl hkey => by obtain ⟨x, rfl, _⟩ := Maps.keyOf_int_inv gK.key hkey; exact ⟨x, rfl⟩) RVg_inv m r n _ _ _ hit h (fun _ hl0 => hDone hl0) (fun x c kl y w1 cn1 hkey hlk hR hat hrg1 hlt hg1 hs1 hen => ?_)
  obtain ⟨x', hx', rfl, hwx⟩ := Maps.keyOf_int_inv gK.key hkey
  cases hx'
  obtain ⟨c', hc, hat'⟩ := hL x hlk
  rw [RV_ev gK] at hR
  have hcl : c = c' := by
    have h1 := hat (genc gr0)
    rw [hat', ← Option.some.inj hR] at h1
    exact (genc_inj h1).symm
  subst hcl
  obtain ⟨p, b, n0, c0⟩ := c
  exact hMore x p b n0 c0 w1 cn1 (bounds_i64 hwx) (hid hc) (hid hlk) (hid hrg1) (hid hlt) (hid ((Kp.refl (Only r) w).grown hg1 fun k e => by cases e; exact .inl rfl)) hs1 hen
end

/-- A tree, as far as it has been copied. -/
def cut0 (T : Tre) (left : Lit → Bool) : Tre := fun x => if left (.int .i64 x) then none else T x
structure Cpy (w : World) (base m' n' : Nat) (f' : Int → Option Gr) (T : Tre) (left : Lit → Bool) : Prop where
  mk0 : Mk Try.prog 3 gev genc w m' f' n'
  fo : Fo w (fun i => base ≤ i) m' m' f' (cut0 T left)
  cn : Cn (cut0 T left) n'
section
variable {w w' : World} {base m' n' : Nat} {f' : Int → Option Gr} {T : Tre} {left : Lit → Bool} {Q : Nat → Prop} {x : Int}
theorem Cpy.kp (h : Cpy w base m' n' f' T left) (k : Kp Q w w') (hs : ∀ i, base ≤ i → ¬ Q i) (hm : ¬ Q m') : Cpy w' base m' n' f' T left := ⟨h.mk0.kp k hm, h.fo.kp k hs, h.cn⟩
theorem Cpy.step (h : Cpy w base m' n' f' T left) {q : Int × List Int} (hx : left (.int .i64 x) = true) (hT : T x = some q) (k : Kp (Only m') w w') {c : Gr} (hp : c.p = q.1) (hr : RowI w' c.b c.n c.c q.2) (hn : ∀ i, c.b = some i → base ≤ i ∧ i ≠ m' ∧ ∀ y a, f' y = some a → a.b ≠ some i)
    (hk : Mk Try.prog 3 gev genc w' m' (fun y => if y = x then some c else f' y) (n' + 1)) : Cpy w' base m' (n' + 1) (fun y => if y = x then some c else f' y) T (fun z => left z && !z.sameKey (.int .i64 x)) := by
  have e0 : ∀ y, cut0 T (fun z => left z && !z.sameKey (.int .i64 x)) y = if y = x then T x else cut0 T left y := fun y => by
    unfold cut0
    by_cases e : y = x
    · subst e
      simp [Lit.sameKey]
    · simp [Lit.sameKey, e]
  have hcx : cut0 T left x = none := by unfold cut0; rw [if_pos hx]
  refine ⟨hk, ⟨fun y => ?_, fun y a hy => ?_, fun y a i hy hi => ?_, fun y z a a' i hy hz hyz hi => ?_⟩, ?_⟩
  · rw [e0]
    by_cases e : y = x
    · simp [e, hT]
    · simp only [e, if_false]
      exact h.fo.same y
  · rw [e0]
    by_cases e : y = x
    · rw [if_pos e] at hy ⊢
      cases hy
      exact ⟨q, hT, hp, hr⟩
    · rw [if_neg e] at hy ⊢
      obtain ⟨q', h1, h2, h3⟩ := h.fo.row y a hy
      exact ⟨q', h1, h2, h3.kp k fun i hi e2 => (h.fo.own y a i hy hi).2.1 e2⟩
  · by_cases e : y = x
    · rw [if_pos e] at hy
      cases hy
      obtain ⟨g1, g2, _⟩ := hn i hi
      exact ⟨g1, g2, g2⟩
    · rw [if_neg e] at hy
      exact h.fo.own y a i hy hi
  · by_cases e : y = x
    · rw [if_pos e] at hy
      cases hy
      rw [if_neg (fun e2 => hyz (e.trans e2.symm))] at hz
      exact (hn i hi).2.2 z a' hz
    · rw [if_neg e] at hy
      by_cases e2 : z = x
      · rw [if_pos e2] at hz
        cases hz
        exact fun e3 => (hn i e3).2.2 y a hy hi
      · rw [if_neg e2] at hz
        exact h.fo.dis y z a a' i hy hz hyz hi
  · obtain ⟨l, h1, h2, h3⟩ := h.cn
    refine ⟨x :: l, List.nodup_cons.2 ⟨fun hm => ?_, h1⟩, fun y => ?_, by rw [List.length_cons, h3]⟩
    · have := (h2 x).1 hm
      rw [hcx] at this
      cases this
    · rw [e0, List.mem_cons, h2]
      by_cases e : y = x
      · simp [e, hT]
      · simp [e]
end
section
variable {w w' : World} {base m' n' : Nat} {f' : Int → Option Gr} {T : Tre} {left : Lit → Bool}
theorem Cpy.start {w : World} {base : Nat} (h : ∀ x, cut0 T left x = none) : Cpy (w.alloc (.map #[] 0)) base w.heap.size 0 (fun _ => none) T left :=
  ⟨Mk.new w, ⟨fun x => by rw [h]; rfl, fun x a e => (by cases e), fun x a k e => (by cases e), fun x y a a' k e => (by cases e)⟩, ⟨[], by simp, fun x => (by rw [h]; simp), rfl⟩⟩
theorem Cpy.fin {base0 : Nat} (h : Cpy w base m' n' f' T left) (hl : ∀ kl, left kl = false) (hb0 : base0 ≤ base) (hb : base0 ≤ m') : Kn (w.alloc (.cells #[.map (some m')] 53)) (fun i => base0 ≤ i) w.heap.size m' T n' ∧ Cn T n' := by
  have e : cut0 T left = T := by
    funext x
    unfold cut0
    rw [hl]
    rfl
  have hF := h.fo
  have hC := h.cn
  rw [e] at hF hC
  have k := (Kp.refl No w).alloc (.cells #[.map (some m')] 53)
  have hm := h.mk0.lt
  have hF2 := hF.kp k fun _ _ h => h
  refine ⟨⟨f', Blk.new w _ _, h.mk0.kp0 k, ⟨hF2.same, hF2.row, fun x a i hx hi => ?_, hF2.dis⟩, ?_, hb, ?_⟩, hC⟩
  · obtain ⟨g1, g2, _⟩ := hF.own x a i hx hi
    obtain ⟨q, _, _, hr⟩ := hF.row x a hx
    have hlt : i < w.heap.size := by rw [hi] at hr; exact hr.lt
    exact ⟨Nat.le_trans hb0 g1, by omega, g2⟩
  · show base0 ≤ w.heap.size
    omega
  · omega
end
theorem run_mmh (w : World) (n : Nat) : (Instr.makeMap 51 (some (.int .i64 (n : Int)))).run Try.prog w = .ok (.map (some w.heap.size)) (w.alloc (.map #[] 0)) := by simp [Instr.makeMap, go_sem]
section
variable {T : Tre} {D : Int → Nat} {w w' : World} {S P : Nat → Prop} {g m cnt : Nat}
theorem Cn.le {T' : Tre} {a b : Nat} (h : Cn T' a) (h' : Cn T b) (hs : ∀ x, (T' x).isSome = true → (T x).isSome = true) : a ≤ b := by
  obtain ⟨l, h1, h2, rfl⟩ := h
  obtain ⟨l', h1', h2', rfl⟩ := h'
  exact nodup_le l l' h1 fun x hx => (h2' x).2 (hs x ((h2 x).1 hx))
theorem Cn.uniq {a b : Nat} (h : Cn T a) (h' : Cn T b) : a = b := by
  obtain ⟨l, h1, h2, rfl⟩ := h
  obtain ⟨l', h1', h2', rfl⟩ := h'
  exact Nat.le_antisymm (nodup_le l l' h1 fun x hx => (h2' x).2 ((h2 x).1 hx)) (nodup_le l' l h1' fun x hx => (h2 x).2 ((h2' x).1 hx))
def CpPost (w : World) (T : Tre) (cnt : Nat) (e : Ending) (w' : World) : Prop := ∃ g' m', e = .returned (.pointer (some ⟨g', 0, none⟩)) ∧ Kn w' (fun i => w.heap.size ≤ i) g' m' T cnt ∧ Kp No w w'
set_option maxHeartbeats 1000000 in
set_option maxRecDepth 100000 in
theorem copy_any (W : WT T D) (h : Kn w S g m T cnt) (hc : Cn T cnt) (hcl : cnt ≤ 1000) : Calls Try.prog 31 #[.pointer (some ⟨g, 0, none⟩)] w (CpPost w T cnt) := by
  obtain ⟨f, hkf⟩ := h
  have HF := hid hkf
  have HW := hid W
  have HC := hid hc
  have cg := hkf.cell
  have hlen := fun ty => Mk.len gK hkf.mp ty
  have hmk := run_mmh w cnt
  have k0 := (Kp.refl No w).alloc (.map #[] 0)
  obtain ⟨DD, hown, hsz, hhas, hat⟩ := (hkf.kp0 k0).mp
  have hs := hkf.fo.same
  have M0 := hid (Cpy.start (w := w) (base := w.heap.size + 2) (T := T) (left := Maps.has DD) (fun x => by
    unfold cut0
    rw [hhas, hs]
    cases T x <;> rfl))
  have HAT := hid hat
  have HHAS := hid hhas
  have HLT := hid (And.intro hkf.hd.lt hkf.mp.lt)
  have cg1 := (hkf.kp0 k0).cell
  clear W hc hkf hs hat hhas
  go_enter Try.func31, Try.ntmps31
  go_wp2_with (at_range; refine wpList_range_own _ rfl _ 51 rfl 3 50 gK.keyed gK.und _ m _ _ rfl hown ?_; intro w0 hrg0 hg0 hs0)
  go_frame
  have k1 := hid (k0.trans ((Kp.refl No _).grown hg0 fun k e => by cases e))
  have M1 := hid (M0.out.kp ((Kp.refl No _).grown hg0 fun k e => by cases e) (fun _ _ e => e) fun e => e)
  rw [World.size_alloc] at hrg0 hs0
  rw [World.size_alloc]
  obtain ⟨m', hm'⟩ : ∃ m', w.heap.size = m' := ⟨_, rfl⟩
  have HM' := hid hm'
  rw [hm'] at M1 hrg0 hs0 ⊢
  obtain ⟨r, hr⟩ : ∃ r, m' + 1 = r := ⟨_, rfl⟩
  have HR := hid hr
  rw [hr] at hrg0 ⊢
  have HLT2 := hid (show g < m' ∧ m < m' by rw [← hm']; exact HLT.out)
  clear hm' hr hown hmk hlen cg cg1 k0
  go_loopw [4] (fun _ wr => ∃ left cn n' f', wr.ranges Try.prog 3 (RV gev genc) m r cnt DD left cn ∧ Hid (Cpy wr (m' + 2) m' n' f' T left) ∧ Hid (∀ k : Int, left (.int .i64 k) = true → (f k).isSome = true) ∧ Hid (Kp No w wr) ∧ Hid (r < wr.heap.size)) (fun _ wr => wr.rangeLeft m r)
  case atStart => exact ⟨_, _, 0, _, hrg0, M1, hid (fun k h => by rw [HHAS.out] at h; exact h), k1, hid (by have := HR.out; omega)⟩
  case round =>
    obtain ⟨left, cn, n', f', hrg, hM, hL, hKp, hrl⟩ := hrel
    go_wp2_with (at_next; refine wp_nextg (f := f) rfl _ rfl rfl hrg (fun k hk => ?_) (fun hl0 => ?_) (fun x ap ab an ac w1 cn1 hxi hfx hlx hrg1 hlt k1 z1 hen => ?_))
    · obtain ⟨a, ha⟩ := Option.isSome_iff_exists.1 (hL.out k hk)
      exact ⟨a, ha, HAT.out k a ha⟩
    · go_ret
      obtain ⟨h1, h2⟩ := hM.out.fin (base0 := m') hl0 (by omega) (Nat.le_refl _)
      rw [h2.uniq HC.out] at h1
      refine ⟨_, m', rfl, ?_, hKp.out.alloc _⟩
      rw [HM'.out]
      exact h1
    · have hrr := HR.out
      have hlt2 := HLT2.out
      have hmw := HM'.out
      obtain ⟨q, hT, hp, hrow⟩ := HF.out.fo.row x _ hfx.out
      simp only at hp hrow
      have k2 := (Kp.refl No w1).alloc (.cells #[.int .i64 ap, .slice (ga ab) an ac] 50)
      have KW2 := hid (((hKp.out.step k1.out fun i hi e => by have e : i = r := e; omega).trans k2))
      have M2 := hid ((hM.out.kp k1.out (fun i hi e => by have e : i = r := e; omega) (fun e => by have e : m' = r := e; omega)).kp k2 (fun _ _ e => e) fun e => e)
      have RG2 := hid (ranges_kp hrg1.out k2 (fun h => h) fun h => h)
      have X2 := Blk.new w1 50 #[.int .i64 ap, .slice (ga ab) an ac]
      have hz2 := World.size_alloc w1 (.cells #[.int .i64 ap, .slice (ga ab) an ac] 50)
      have HME := hid hrg.left_eq
      rw [z1] at X2
      generalize w1.alloc (.cells #[.int .i64 ap, .slice (ga ab) an ac] 50) = w2 at KW2 M2 RG2 X2 hz2 ⊢
      have HX2 := hid X2
      have cx0 := X2.cell 0
      have cx1 := X2.cell 1
      simp only [List.getElem?_toArray, List.getElem?_cons_zero, List.getElem?_cons_succ] at cx0 cx1
      have HROW := hid (hrow.kp0 KW2.out)
      have HQL := hid (show q.2.length ≤ 100000000 by have := kids_len HW.out x; rw [kids_some hT] at this; omega)
      have hwr := hrl.out
      have hnb : n' ≤ cnt := hM.out.cn.le HC.out fun y hy => by
        unfold cut0 at hy
        split at hy
        · cases hy
        · exact hy
      have hfn : (f' x).isSome = false := by
        rw [hM.out.fo.same]
        unfold cut0
        rw [if_pos hlx.out]
        rfl
      have hpl : n' < maxLen := by simp only [maxLen]; omega
      have HHT := hid hT
      have HHP := hid hp
      clear hrg hrg1 hM k1 k2 X2 hen hT hp hrow
      go_region_with (first
        | (go_at_call 36
           refine (clone_row (HROW.out.kp0 ((Kp.refl No w2).drew)) HQL.out).mono ?_
           rintro e w5 ⟨b5, c5, rfl, r5, hb5, k5'⟩
           have k5 := (Kp.refl No w2).drew.trans k5'
           obtain ⟨w6, hr6, m6, k6⟩ := (M2.out.mk0.kp0 k5).put gK ⟨ap, b5, an, c5⟩ hxi hpl
           rw [hfn] at m6
           simp only [gev, gsl] at hr6
           have cy0 : w5.cell? ⟨wr.heap.size, 0, none⟩ = some (.int .i64 ap) := (HX2.out.kp0 k5).cell 0
           have cy1 : w5.cell? ⟨wr.heap.size, 1, none⟩ = some (.slice (ga ab) an ac) := (HX2.out.kp0 k5).cell 1
           have R5 := hid r5
           have B5 := hid hb5
           have K5 := hid k5
           have M6 := hid m6
           have K6 := hid k6
           unfold gsl
           clear r5 hb5 k5 k5' m6 k6))
      all_goals
        go_wp2_with fail
        have hw5 := K5.out.size
        have hw6 := K6.out.size
        have MM := hid ((M2.out.kp K5.out (fun _ _ e => e) fun e => e).step hlx.out HHT.out K6.out (c := ⟨ap, b5, an, c5⟩) HHP.out (R5.out.kp K6.out fun i hi e => by have e : i = m' := e; have := B5.out i hi; have hd5 : w2.drew.heap.size = w2.heap.size := rfl; omega) (fun i hi => by
          have h1 := B5.out i hi
          have hd5 : w2.drew.heap.size = w2.heap.size := rfl
          refine ⟨by omega, by omega, fun y a hy e => ?_⟩
          obtain ⟨q', _, _, hr'⟩ := M2.out.fo.row y a hy
          rw [e] at hr'
          have := hr'.lt
          omega) (by have := M6.out; simpa using this))
        have RG6 := hid (ranges_kp (ranges_kp RG2.out K5.out (fun h => h) fun h => h) K6.out (fun e => by have e : m = m' := e; omega) fun e => by have e : r = m' := e; omega)
        go_roundw
        case rel => exact ⟨_, cn1, n' + 1, _, RG6.out, MM, hid (fun k hk => hL.out k (by simp only [Bool.and_eq_true] at hk; exact hk.1)), hid ((KW2.out.trans K5.out).step K6.out fun i hi e => by have e : i = m' := e; omega), hid (by omega)⟩
        case measure =>
          rw [RG6.out.left_eq, HME.out]
          exact hlt.out
end
end Go.Proofs.Ytabampeipfbdjaa
