/-
  The walk of ShelfStops.
-/
import Derived.Test.YtllamoiehmdgfaaSQ
namespace Go.Proofs.Ytllamoiehmdgfaa
open Go.RowKit Go.Shelf

attribute [local go_sem] Oper.semAt_some

section
/-- Between two rounds. -/
structure NI (w : World) (q p g Bnd : Nat) (stop : Int) (S : Nat → Prop) (l : List It) (O : Nat → Prop) (pre : List (Nat × It)) (W : World) : Prop where
  kp : Kp No w W
  st : Blk W q 5 #[.int .u8 stop]
  res : Blk W (q + 1) 4 #[.bool false]
  sh : Blk W p 26 #[.pointer (some ⟨g, 0, none⟩)]
  cnt : Blk W (p + 1) 3 #[.int .i64 (pre.length : Int)]
  shf : Shf W g S l
  own : ∀ k, O k → Bnd ≤ k
  big : Bnd ≤ W.heap.size
theorem NI.step {w : World} {q p g Bnd : Nat} {stop : Int} {S : Nat → Prop} {l : List It} {O : Nat → Prop} {pre : List (Nat × It)} {W W' : World} {T : Nat → Prop} (h : NI w q p g Bnd stop S l O pre W) (hk : Kp T W W') (hT : ∀ k, T k → Bnd ≤ k) (hw : w.heap.size ≤ Bnd) (hq : q + 1 < Bnd) (hp : p + 1 < Bnd) (hS : ∀ k, S k → k < Bnd) : NI w q p g Bnd stop S l O pre W' := by
  obtain ⟨h1, h2, h3, h4, h5, h6, h7, h8⟩ := h
  have hs := hk.size
  exact ⟨h1.step hk fun i hi e => absurd (hT i e) (by omega), h2.kp hk (fun e => absurd (hT _ e) (by omega)), h3.kp hk (fun e => absurd (hT _ e) (by omega)), h4.kp hk (fun e => absurd (hT _ e) (by omega)), h5.kp hk (fun e => absurd (hT _ e) (by omega)), h6.kp hk fun i hi e => absurd (hT i e) (by have := hS i hi; omega), h7, by omega⟩
theorem NI.ab {w : World} {q p g Bnd : Nat} {stop : Int} {S : Nat → Prop} {l : List It} (hw : w.heap.size ≤ Bnd) (hq : q + 1 < Bnd) (hp : p + 1 < Bnd) (hS : ∀ k, S k → k < Bnd) (R : List (Nat × It) → Prop) : AbO (fun O pre W => NI w q p g Bnd stop S l O pre W ∧ R pre) := by
  rintro O O' pre W W' ⟨h, hr⟩ hk hO
  obtain ⟨h1, h2, h3, h4, h5, h6, h7, h8⟩ := h.step hk h.own hw hq hp hS
  refine ⟨⟨h1, h2, h3, h4, h5, h6, fun k e => ?_, h8⟩, hr⟩
  rcases hO k e with e | e
  · exact h7 k e
  · exact Nat.le_trans h.big e.1

set_option maxRecDepth 100000 in
set_option maxHeartbeats 2000000 in
theorem shelfStops_walk (w : World) (v : Value) (stop : Int) {ops : List Op} (hv : Rw 3 oc op0 w Anyb v ops) (hst : 0 ≤ stop ∧ stop ≤ 255) :
    Calls Try.prog 8 #[v, .int .u8 stop] w fun e w' => e = .returned (.bool true) ∧ Kp No w w' := by
  have HV := hid hv
  obtain ⟨A, vc, rfl, hc, hm, hr⟩ := hv
  clear hr
  simp only [maxLen] at hm
  refine (callsIn_wide (n := 5)).1 ?_
  refine callsIn_of_wp_marks Try.func8 rfl trivial ?_ rfl
  simp only [Try.ntmps8, List.size_toArray, List.length_cons, List.length_nil, Nat.reduceAdd, Nat.reduceSub, Array.replicate_succ, Array.replicate_zero, List.push_toArray, List.append_toArray, List.nil_append, List.cons_append]
  by_cases hbig : 100 < ops.length
  · gi_wp2_with (first
      | (refine ⟨trivial, ?_⟩; gi_at_call 10; refine (callsIn_wide.2 (awake_any _)).mono ?_; rintro e w1 ⟨rfl, k1⟩
         have b0 : Blk w1 w.heap.size 5 #[.int .u8 stop] := ((Blk.new w 5 #[.int .u8 stop]).kp0 ((Kp.refl No _).alloc _)).kp0 k1
         have b1 : Blk w1 (w.heap.size + 1) 4 #[.bool false] := ((Blk.new (w.alloc (.cells #[.int .u8 stop] 5)) 4 #[.bool false]).next (by simp)).kp0 k1
         have c1 := b1.cell 0
         have f1 := b1.frozen 0
         simp at c1
         have K1 := hid ((((Kp.refl No w).alloc _).alloc _).trans k1)
         clear k1))
    exact ⟨.bool true, by simp [results, Try.results8, go_sem, c1], rfl, K1.out.setCell (p := ⟨w.heap.size + 1, 0, none⟩) (.inr (Nat.le_succ _)) _⟩
  · have hl : ops.length ≤ 100 := by omega
    gi_wp2_with (first
      | (refine ⟨trivial, ?_⟩; gi_at_call 10; refine (callsIn_wide.2 (awake_any _)).mono ?_; rintro e w1 ⟨rfl, k1⟩
         have b0 : Blk w1 w.heap.size 5 #[.int .u8 stop] := ((Blk.new w 5 #[.int .u8 stop]).kp0 ((Kp.refl No _).alloc _)).kp0 k1
         have b1 : Blk w1 (w.heap.size + 1) 4 #[.bool false] := ((Blk.new (w.alloc (.cells #[.int .u8 stop] 5)) 4 #[.bool false]).next (by simp)).kp0 k1
         have c1 := b1.cell 0
         have f1 := b1.frozen 0
         simp at c1
         have K1 := hid ((((Kp.refl No w).alloc _).alloc _).trans k1)
         clear k1)
      | (refine ⟨trivial, ?_⟩; gi_at_call 25; refine (callsIn_wide.2 (walked_any (HV.out.kp0 K1.out) hl)).mono ?_; rintro e w2 ⟨rfl, k2, h2⟩
         have B0 := hid (b0.kp0 k2)
         have B1 := hid (b1.kp0 k2)
         have K2 := hid (K1.out.trans k2)
         have H2 := hid h2
         have hw12 := k2.size
         clear k2 b0 b1 c1 f1 h2)
      | (refine ⟨trivial, ?_⟩; gi_at_call 29; refine (callsIn_wide.2 (all_any _ _)).mono ?_; rintro e w' ⟨rfl, rfl⟩))
    have hpl := play_len ops
    generalize play ops = l at H2 hpl
    have b2 : Blk _ w2.heap.size 26 #[.pointer (some ⟨w1.heap.size, 0, none⟩)] := ((Blk.new w2 26 #[.pointer (some ⟨w1.heap.size, 0, none⟩)]).kp0 ((Kp.refl No _).alloc (.cells #[.int .i64 0] 3))).kp0 ((Kp.refl No _).alloc (.cells #[.pointer (some ⟨w1.heap.size, 0, none⟩)] 26))
    have b3 : Blk _ (w2.heap.size + 1) 3 #[.int .i64 0] := ((Blk.new (w2.alloc (.cells #[.pointer (some ⟨w1.heap.size, 0, none⟩)] 26)) 3 #[.int .i64 0]).next (by simp)).kp0 ((Kp.refl No _).alloc (.cells #[.pointer (some ⟨w1.heap.size, 0, none⟩)] 26))
    have b4 : Blk _ (w2.heap.size + 1 + 1) 26 #[.pointer (some ⟨w1.heap.size, 0, none⟩)] := (Blk.new ((w2.alloc (.cells #[.pointer (some ⟨w1.heap.size, 0, none⟩)] 26)).alloc (.cells #[.int .i64 0] 3)) 26 #[.pointer (some ⟨w1.heap.size, 0, none⟩)]).next (by simp)
    have k3 : Kp No w2 _ := (((Kp.refl No w2).alloc (.cells #[.pointer (some ⟨w1.heap.size, 0, none⟩)] 26)).alloc (.cells #[.int .i64 0] 3)).alloc (.cells #[.pointer (some ⟨w1.heap.size, 0, none⟩)] 26)
    have hz : _ = w2.heap.size + 3 := show (((w2.alloc (.cells #[.pointer (some ⟨w1.heap.size, 0, none⟩)] 26)).alloc (.cells #[.int .i64 0] 3)).alloc (.cells #[.pointer (some ⟨w1.heap.size, 0, none⟩)] 26)).heap.size = w2.heap.size + 3 by simp
    generalize (((w2.alloc (.cells #[.pointer (some ⟨w1.heap.size, 0, none⟩)] 26)).alloc (.cells #[.int .i64 0] 3)).alloc (.cells #[.pointer (some ⟨w1.heap.size, 0, none⟩)] 26)) = W0 at b2 b3 b4 k3 hz ⊢
    have hs0 : Shf W0 w1.heap.size (fun k => k < w2.heap.size) l := (H2.out.mono fun i hi _ => hi).kp0 k3
    obtain ⟨Rd, hRd, hseq⟩ := All_seq hs0 _ b4
    have hb1 := B1.out.lt
    have hK2 := K2.out.size
    have i0 : NI w w.heap.size w2.heap.size w1.heap.size W0.heap.size stop (fun k => k < w2.heap.size) l No [] W0 := ⟨K2.out.trans k3, B0.out.kp0 k3, B1.out.kp0 k3, b2, b3, hs0, fun k hk => hk.elim, Nat.le_refl _⟩
    have I0 := hid i0
    have SQ := hid hseq
    have HRd := hid hRd
    have AB := hid (@NI.ab w w.heap.size w2.heap.size w1.heap.size W0.heap.size stop (fun k => k < w2.heap.size) l (by omega) (by omega) (by omega) (fun k hk => by omega))
    clear i0 hseq hRd b2 b3 b4 k3 hs0 B0 B1 H2
    refine range_own (gf := 38) (lb := #[.pointer (some ⟨w2.heap.size + 1 + 1, 0, none⟩)]) rfl (enters_of Try.func38 (by kernel_rfl) rfl)
      SQ.out (fun k hk => (HRd.out k hk).1) (fun _ => rfl) (fun O pre W => NI w w.heap.size w2.heap.size w1.heap.size W0.heap.size stop (fun k => k < w2.heap.size) l O pre W ∧ (pre.length : Int) ≤ stop) (fun c O pre W => NI w w.heap.size w2.heap.size w1.heap.size W0.heap.size stop (fun k => k < w2.heap.size) l O pre W ∧ (c = .exit 0 ∧ (pre.length : Int) = stop + 1)) (AB.out _) (fun c => AB.out _) ⟨I0.out, by simp; omega⟩ ?round ?done ?stop
    case done =>
      rintro D O W hD hO ⟨hN, hle⟩ hK
      have hlen : (en 0 l).length = l.length := by rw [← List.length_map (f := Prod.snd), en_snd]
      rw [hlen] at hle
      have hcn := hN.cnt
      rw [hlen] at hcn
      have f0 := hN.st.cell 0
      have f1 := hcn.cell 0
      have f2 := hN.sh.cell 0
      have f3 := hN.res.cell 0
      have f4 := hN.res.frozen 0
      simp at f0 f1 f2 f3
      have sD := hN.shf.kp0 (Kp.refl No _).drew
      have hDb : w.heap.size + 1 ≠ D := by have := hN.res.lt; omega
      have hmn : ¬ stop + 1 < (l.length : Int) := by omega
      clear hcn hlen
      gi_wp2
      refine wpIn_wide.2 ?_
      refine region_tail 11 (by kernel_rfl) (by kernel_rfl) ?_
      simp only [List.take_succ_cons, List.take_zero, List.drop_succ_cons, List.drop_zero]
      repeat still_step
      still_call (flp (Len_any sD))
      repeat still_step
      refine wpStill_nil ?_
      go_wp2
      all_goals
        gi_wp2
        try rw [show (stop + 1 == (l.length : Int)) = true by rw [beq_iff_eq]; omega]
        have hK2 : (W.setCell ⟨w.heap.size + 1, 0, none⟩ (.bool true)).drew.heap[D]? = some (.deferred (some [])) :=
          (Below.heap_setCell W ⟨w.heap.size + 1, 0, none⟩ _ D (by simp only; omega)).trans hK
        have b9 : Blk (W.setCell ⟨w.heap.size + 1, 0, none⟩ (.bool true)).drew (w.heap.size + 1) 4 #[.bool true] := (hN.res.put 0 (.bool true)).kp0 (Kp.refl No _).drew
        have k9 : Kp No w (W.setCell ⟨w.heap.size + 1, 0, none⟩ (.bool true)).drew := (hN.kp.setCell (p := ⟨w.heap.size + 1, 0, none⟩) (.inr (Nat.le_succ _)) (.bool true)).drew
        generalize (W.setCell ⟨w.heap.size + 1, 0, none⟩ (.bool true)).drew = WF at hK2 b9 k9 ⊢
        have kp := Kp.put1 D WF (.deferred none)
        have e1 := (b9.kp kp (fun e => hDb e)).cell 0
        simp at e1
        refine ⟨by simp, .inl ⟨_, _, rfl, run_takeDeferred hK2, ?_⟩⟩
        exact ⟨.bool true, by simp [results, Try.results8, go_sem, e1], rfl, k9.step kp fun i hi e => by have : i = D := e; omega⟩
    case stop =>
      rintro D O c pre rest W hD hO hx ⟨hN, rfl, hle⟩ hK
      have hpl3 : pre.length ≤ l.length := by
        have := congrArg List.length hx
        rw [← List.length_map (f := Prod.snd), en_snd] at this
        simp at this
        omega
      have f0 := hN.st.cell 0
      have f1 := hN.cnt.cell 0
      have f2 := hN.sh.cell 0
      have f3 := hN.res.cell 0
      have f4 := hN.res.frozen 0
      simp at f0 f1 f2 f3
      have sD := hN.shf.kp0 (Kp.refl No _).drew
      have hDb : w.heap.size + 1 ≠ D := by have := hN.res.lt; omega
      have HLE := hid hle
      have hq1 : stop + 1 ≤ (l.length : Int) := by omega
      rw [hle] at f1
      clear hle hx
      gi_wp2
      refine wpIn_wide.2 ?_
      refine region_tail 11 (by kernel_rfl) (by kernel_rfl) ?_
      simp only [List.take_succ_cons, List.take_zero, List.drop_succ_cons, List.drop_zero]
      repeat still_step
      still_call (flp (Len_any sD))
      repeat still_step
      refine wpStill_nil ?_
      go_wp2
      all_goals
        gi_wp2
        try rw [show (stop + 1 == (l.length : Int)) = true by rw [beq_iff_eq]; omega]
        have hK2 : (W.setCell ⟨w.heap.size + 1, 0, none⟩ (.bool true)).drew.heap[D]? = some (.deferred (some [])) :=
          (Below.heap_setCell W ⟨w.heap.size + 1, 0, none⟩ _ D (by simp only; omega)).trans hK
        have b9 : Blk (W.setCell ⟨w.heap.size + 1, 0, none⟩ (.bool true)).drew (w.heap.size + 1) 4 #[.bool true] := (hN.res.put 0 (.bool true)).kp0 (Kp.refl No _).drew
        have k9 : Kp No w (W.setCell ⟨w.heap.size + 1, 0, none⟩ (.bool true)).drew := (hN.kp.setCell (p := ⟨w.heap.size + 1, 0, none⟩) (.inr (Nat.le_succ _)) (.bool true)).drew
        generalize (W.setCell ⟨w.heap.size + 1, 0, none⟩ (.bool true)).drew = WF at hK2 b9 k9 ⊢
        have kp := Kp.put1 D WF (.deferred none)
        have e1 := (b9.kp kp (fun e => hDb e)).cell 0
        simp at e1
        refine ⟨by simp, .inl ⟨_, _, rfl, run_takeDeferred hK2, ?_⟩⟩
        exact ⟨.bool true, by simp [results, Try.results8, go_sem, e1], rfl, k9.step kp fun i hi e => by have : i = D := e; omega⟩
    case round =>
      rintro l' O pre x rest W hx hOl hl1 hl2 ⟨hN, hle⟩
      have hx1 := en_split hx
      have hpl2 : pre.length < l.length := by
        have := congrArg List.length hx
        rw [← List.length_map (f := Prod.snd), en_snd] at this
        simp at this
        omega
      have hxy : l.getD pre.length it0 = x.2 := by
        have h9 := congrArg (List.map Prod.snd) hx
        rw [en_snd] at h9
        rw [h9]
        simp [List.getD]
      obtain ⟨xr, x⟩ := x
      simp only [Nat.zero_add] at hx1 hxy
      subst hx1
      have HXY := hid hxy
      clear hx hxy
      dsimp only
      gi_wp2
      refine ⟨(Kp.refl _ _).alloc _, fun W2 hk2 => ?_⟩
      have hl3 := hN.own l' hOl
      have bX : Blk W2 W.heap.size 24 #[.int .i64 x.key, .int .i64 x.id] := (Blk.new W 24 _).kp hk2 (fun e => by have : W.heap.size = l' := e; omega)
      have kA : Kp (Only l') W W2 := ((Kp.refl (Only l') W).alloc _).trans hk2
      have N2 := NI.step hN kA (fun k hk => by have : k = l' := hk; omega) (by omega) (by omega) (by omega) (fun k hk => by omega)
      have hbg := hN.big
      have hW2 := kA.size
      clear hN kA hk2
      have c0 := N2.sh.cell 0
      have c1 := N2.cnt.cell 0
      simp at c0 c1
      gi_wp2_with (first
        | (refine ⟨trivial, ?_⟩; gi_at_call 20; refine (CallsIn.inRound l' (callsIn_wide.2 (at_is N2.shf pre.length hpl2 x HXY.out))).mono ?_; rintro e w3 ⟨rfl, k3⟩
           have N3 := NI.step N2 k3 (fun k hk => hk.elim) (by omega) (by omega) (by omega) (fun k hk => by omega)
           have bX3 := bX.kp0 k3
           have x0 := bX3.cell 0
           have x1 := bX3.cell 1
           have hxl := bX3.lt
           have d1 := N3.cnt.cell 0
           have e1 := N3.cnt.frozen 0
           have d2 := N3.st.cell 0
           have hl1' := N3.cnt.lt
           have hl2' := N3.st.lt
           simp at x0 x1 d1 d2))
      all_goals
        have k4 : Kp (Out O Rd) W2 ((w3.setCell ⟨w2.heap.size + 1, 0, none⟩ (.int .i64 ((pre.length : Int) + 1))).alloc (.cells #[.int .i64 x.key, .int .i64 x.id] 24)) := by
          refine ((Kp.all k3).setCell (p := ⟨w2.heap.size + 1, 0, none⟩) (.inl ⟨fun e => absurd (N3.own _ e) (by simp only; omega), fun e => ?_⟩) _).alloc _
          rcases (HRd.out _ e).2 with e | e <;> simp only at e <;> omega
        have ks := Kp.set1 (w2.heap.size + 1) 0 w3 (.int .i64 ((pre.length : Int) + 1))
        have N5 : NI w w.heap.size w2.heap.size w1.heap.size W0.heap.size stop (fun k => k < w2.heap.size) l O (pre ++ [(pre.length, x)]) (w3.setCell ⟨w2.heap.size + 1, 0, none⟩ (.int .i64 ((pre.length : Int) + 1))) := by
          refine ⟨N3.kp.setCell (p := ⟨w2.heap.size + 1, 0, none⟩) (.inr (by simp only; omega)) _, N3.st.kp ks (fun e => by have : w.heap.size = w2.heap.size + 1 := e; omega), N3.res.kp ks (fun e => by have : w.heap.size + 1 = w2.heap.size + 1 := e; omega), N3.sh.kp ks (fun e => by have : w2.heap.size = w2.heap.size + 1 := e; omega), ?_, N3.shf.kp ks (fun i hi e => by have : i = w2.heap.size + 1 := e; omega), N3.own, by have := N3.big; have := ks.size; omega⟩
          have := N3.cnt.put 0 (.int .i64 ((pre.length : Int) + 1))
          rw [List.length_append, List.length_singleton]
          exact this
        have N4 := NI.step N5 ((Kp.refl No _).alloc (.cells #[.int .i64 x.key, .int .i64 x.id] 24)) (fun k hk => hk.elim) (by omega) (by omega) (by omega) (fun k hk => by omega)
      · exact ⟨k4.mono fun k _ h => h.1, N4, rfl, by rw [List.length_append, List.length_singleton]; omega⟩
      · exact ⟨k4, N4, by rw [List.length_append, List.length_singleton]; omega⟩
end
end Go.Proofs.Ytllamoiehmdgfaa
