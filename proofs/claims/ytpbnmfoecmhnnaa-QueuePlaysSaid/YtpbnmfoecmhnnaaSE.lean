/-
  Contracts: Deep; way.
-/
import Derived.Test.YtpbnmfoecmhnnaaSD
import Derived.Laws.MakeOwn
import Derived.Deep.RegionWith
namespace Go.Proofs.Ytpbnmfoecmhnnaa
open Go.RowKit

section
variable {w w' : World} {g b c n top : Nat} {nd nd' : Nat → Nd} {S : Nat → Prop}

theorem infoStep : (Try.prog.info? 135).map (fun i => (i.zero, i.size, i.bytes)) = some (some (.agg #[.int .i64 0, .int .i64 0]), 2, 16) := by kernel_rfl
theorem infoNode : (Try.prog.info? 103).map (fun i => (i.zero, i.size, i.bytes)) = some (some (.agg #[.int .i64 0, .int .i64 0, .int .i64 0, .int .i64 0, .int .i64 0, .int .i64 0]), 6, 48) := by kernel_rfl
theorem usStep : Us Try.prog 98 135 2 16 (.agg #[.int .i64 0, .int .i64 0]) := ⟨by kernel_rfl, infoStep, by kernel_rfl, by omega⟩

theorem mk_run (H : Nat) (hH : H ≤ 1000000000) : ∃ X : Array Value, X.size = H * 2 ∧ ∀ w, (Instr.makeSlice 98 (.int .i64 0) (.int .i64 (H : Int))).run Try.prog w = .ok (.slice (some ⟨w.heap.size, 0, none⟩) 0 H) (w.alloc (.cells X 135)) := by
  obtain ⟨i, hi, hz, hs, hb⟩ := info_parts infoStep
  refine ⟨madeCells (Value.agg #[.int .i64 0, .int .i64 0]).cells (H * 2), ?_, fun w => ?_⟩
  · simp [madeCells]
  · have hr := run_make (P := Try.prog) w 98 135 i _ usStep.un hi hz .i64 .i64 0 (H : Int) (by omega) (by omega) (by rw [hb]; omega) (by omega)
    rw [hs] at hr
    simpa using hr

theorem Deep_any (h : Sh w g b c n nd top) {t : BT} (hT : Tr nd t) (hI : In n t.pls) (hr : t.root = top) :
    Calls Try.prog 34 #[.pointer (some ⟨g, 0, none⟩)] w fun e w' => e = .returned (.int .i64 (t.ht : Int)) ∧ w = w' := by
  subst hr
  obtain ⟨c0, c1⟩ := h.head
  go_enter Try.func34, Try.ntmps34
  go_wp2_with fail
  refine (deep_any h hT hI).mono ?_
  rintro e w' ⟨rfl, rfl⟩
  go_wp2_with fail
  go_ret
  exact ⟨rfl, rfl⟩

/-- What is found on the way to an item. -/
structure Way (nd : Nat → Nd) (x : It) (T : BT) (fs : List Fr) (t : BT) : Prop where
  plug : T = plug fs t
  sds : Sds fs
  low : ∀ q ∈ lc fs, ltB (nd q).it x = true
  high : ∀ q ∈ rc fs, ltB x (nd q).it = true
def Srt (nd : Nat → Nd) (l : List Nat) : Prop := (l.map fun p => (nd p).it).Pairwise fun a b => ltB a b = true

theorem Way.down0 {x : It} {T l r : BT} {fs : List Fr} {p : Nat} (h : Way nd x T fs (.node p l r)) (hs : Srt nd T.pls) (hx : ltB x (nd p).it = true) : Way nd x T (⟨p, 0, r⟩ :: fs) l := by
  obtain ⟨h1, h2, h3, h4⟩ := h
  refine ⟨by rw [h1]; simp [Go.Proofs.Ytpbnmfoecmhnnaa.plug, plug1], ⟨.inl rfl, h2⟩, by simpa [lc] using h3, fun q hq => ?_⟩
  simp only [rc, if_true, List.mem_append, List.mem_cons] at hq
  rcases hq with (rfl | hq) | hq
  · exact hx
  · rw [h1, plug_pls] at hs
    unfold Srt at hs
    simp only [BT.pls, List.map_append, List.map_cons, List.pairwise_append, List.pairwise_cons, List.mem_map, List.mem_append, List.mem_cons] at hs
    exact ltB_trans hx (hs.2.1.1.2.1.1 _ ⟨q, hq, rfl⟩)
  · exact h4 q hq
theorem Way.down1 {x : It} {T l r : BT} {fs : List Fr} {p : Nat} (h : Way nd x T fs (.node p l r)) (hs : Srt nd T.pls) (hx : ltB (nd p).it x = true) : Way nd x T (⟨p, 1, l⟩ :: fs) r := by
  obtain ⟨h1, h2, h3, h4⟩ := h
  refine ⟨by rw [h1]; simp [Go.Proofs.Ytpbnmfoecmhnnaa.plug, plug1], ⟨.inr rfl, h2⟩, fun q hq => ?_, by simpa [rc] using h4⟩
  simp only [lc, List.mem_append, List.mem_singleton, if_neg (show ¬ (1 : Nat) = 0 by omega)] at hq
  rcases hq with hq | hq | rfl
  · exact h3 q hq
  · rw [h1, plug_pls] at hs
    unfold Srt at hs
    simp only [BT.pls, List.map_append, List.map_cons, List.pairwise_append, List.pairwise_cons, List.mem_map, List.mem_append, List.mem_cons] at hs
    exact ltB_trans (hs.2.1.1.2.2 _ ⟨q, hq, rfl⟩ _ (.inl rfl)) hx
  · exact hx

/-- What way leaves. -/
def WayE (w : World) (nd : Nat → Nd) (x : It) (T : BT) (e : Ending) (w' : World) : Prop :=
  ∃ v fs t, e = .returned (.tuple #[v, .int .i64 (t.root : Int)]) ∧ Kp No w w' ∧ Ow w' w.heap.size 135 2 sc v fs.reverse ∧ Way nd x T fs t ∧ (t = .nil ∨ ∃ p l r, t = .node p l r ∧ (nd p).it = x)

theorem plug_ht (fs : List Fr) (t : BT) : fs.length + t.ht ≤ (plug fs t).ht := by
  induction fs generalizing t with
  | nil => simp [plug]
  | cons f fs ih =>
    have := ih (plug1 f t)
    have h1 : t.ht + 1 ≤ (plug1 f t).ht := by
      unfold plug1
      split <;> simp only [BT.ht] <;> omega
    simp only [plug, List.length_cons]
    omega
theorem sc_one (f : Fr) (i : Nat) : (sc f i).oneCell' = true := by
  unfold sc
  split <;> rfl
theorem ow_len {w : World} {base e n : Nat} {α : Type} {f : α → Nat → Value} {v : Value} {xs : List α} (h : Ow w base e n f v xs) : lenOf v = xs.length := by
  obtain ⟨A, c, rfl⟩ := h.formN rfl
  rfl
/-- One step, as a slice of its own. -/
theorem Rw.step1 (w : World) (p s : Nat) (o : BT) : Rw 2 sc fr0 (w.alloc (.cells #[.int .i64 (p : Int), .int .i64 (s : Int)] 135)) Anyb (.slice (some ⟨w.heap.size, 0, none⟩) 1 1) [⟨p, s, o⟩] := by
  refine ⟨_, _, rfl, by simp, by simp [maxLen], fun _ => ⟨w.heap.size, 0, rfl, by simp, trivial, fun j i hj hi => ?_⟩⟩
  have hj0 : j = 0 := by simpa using hj
  subst hj0
  have hb := Blk.new w 135 #[.int .i64 (p : Int), .int .i64 (s : Int)]
  match i, hi with
  | 0, _ => exact hb.cell 0
  | 1, _ => exact hb.cell 1

set_option maxRecDepth 100000 in
set_option maxHeartbeats 600000 in
theorem way_any (h : Sh w g b c n nd top) {T : BT} (hT : Tr nd T) (hr : T.root = top) (hi : In n T.pls) (hn : T.pls.Nodup) (hs : Srt nd T.pls) (x : It) :
    Calls Try.prog 54 #[.pointer (some ⟨g, 0, none⟩), .agg #[.int .i64 x.key, .int .i64 x.id]] w (WayE w nd x T) := by
  have hsm := h.small
  have hh : T.ht ≤ 1000000000 := by have := T.ht_le; have : T.sz ≤ n := hi.len hn; omega
  obtain ⟨X, hX, hmk⟩ := mk_run T.ht hh
  subst hr
  go_enter Try.func54, Try.ntmps54
  go_wp2_with fail
  have bx := Blk.new w 24 #[.int .i64 x.key, .int .i64 x.id]
  have k1 := (Kp.refl No w).alloc (.cells #[.int .i64 x.key, .int .i64 x.id] 24)
  have hz : (w.alloc (.cells #[.int .i64 x.key, .int .i64 x.id] 24)).heap.size = w.heap.size + 1 := by simp
  have h1 := h.kp0 k1
  generalize w.alloc (.cells #[.int .i64 x.key, .int .i64 x.id] 24) = w1 at bx k1 h1 hz ⊢
  refine wp_scope_pass 0 (fun a' w' => ∃ (fs : List Fr) (t : BT) (V u8 u9 u10 u11 u12 u13 u14 u15 u16 u17 u18 u19 u20 u21 u22 u23 u24 u25 u26 u27 u28 u29 u30 u31 u32 u33 u34 u35 u36 u37 u38 u39 u40 u41 u42 u43 u44 u45 u46 u47 u48 u49 u50 u51 : Value), a' = { tmps := #[.pointer (some ⟨g, 0, none⟩), .agg #[.int .i64 x.key, .int .i64 x.id], undef, .pointer (some ⟨w.heap.size, 0, none⟩), .slice none 0 0, .int .i64 0, V, .int .i64 (t.root : Int), u8, u9, u10, u11, u12, u13, u14, u15, u16, u17, u18, u19, u20, u21, u22, u23, u24, u25, u26, u27, u28, u29, u30, u31, u32, u33, u34, u35, u36, u37, u38, u39, u40, u41, u42, u43, u44, u45, u46, u47, u48, u49, u50, u51], defers := [] } ∧ Kp No w1 w' ∧ Ow w' w1.heap.size 135 2 sc V fs.reverse ∧ Way nd x T fs t)
    (fun a' _ => T.ht + 1 - lenOf (a'.tmps.getD 6 undef)) rfl ?_ ?_
  · rintro a' w' ⟨fs, t, V, u8, u9, u10, u11, u12, u13, u14, u15, u16, u17, u18, u19, u20, u21, u22, u23, u24, u25, u26, u27, u28, u29, u30, u31, u32, u33, u34, u35, u36, u37, u38, u39, u40, u41, u42, u43, u44, u45, u46, u47, u48, u49, u50, u51, rfl, hk, hv, hw⟩
    have s2 := h1.kp0 hk
    have b2 := bx.kp0 hk
    have hbl := b2.lt
    obtain ⟨hTt, hTf⟩ := Tr.plug hw.sds (hw.plug ▸ hT)
    have hpl := plug_pls fs t
    rw [← hw.plug] at hpl
    have hfl : fs.length ≤ T.ht := by have := plug_ht fs t; rw [← hw.plug] at this; omega
    have iT : In n t.pls := fun q hq => hi q (by rw [hpl]; simp [hq])
    cases t with
    | nil =>
      rw [show ((BT.nil.root : Nat) : Int) = 0 from rfl]
      go_wp2_with fail
      go_quiet (fail)
      go_wp2_with fail
      simp only [Exit.jump]
      refine bodyPost_ret (v := .tuple #[V, .int .i64 0]) (by simp [results, Try.results54, go_sem]) rfl ⟨V, fs, .nil, rfl, (k1.trans hk).drewN _, (hv.kp0 ((Kp.refl No _).drewN _)).lower k1.size, hw, .inl rfl⟩
    | node p l r =>
      obtain ⟨p1, p2⟩ := iT.p
      have cx0 := b2.cell 0
      have cx1 := b2.cell 1
      simp at cx0 cx1
      have ck := s2.key p1 p2
      have ci := s2.id p1 p2
      have hb := nz p1
      simp only [BT.root]
      by_cases hxi : (nd p).it = x
      · go_wp2_with fail
        go_quiet ((go_at_call 55; exact Calls.quiet_of_same (flp (node_any (s2.kp0 ((Kp.refl No _).drewN _)) p p1 p2))))
        go_wp2_with fail
        simp only [Exit.jump]
        refine bodyPost_ret (v := .tuple #[V, .int .i64 (p : Int)]) (by simp [results, Try.results54, go_sem]) rfl ⟨V, fs, .node p l r, rfl, (k1.trans hk).drewN _, (hv.kp0 ((Kp.refl No _).drewN _)).lower k1.size, hw, .inr ⟨p, l, r, rfl, hxi⟩⟩
      · have HXI := hid hxi
        by_cases hkk : (nd p).it.key = x.key
        · have hid' : ¬ (nd p).it.id = x.id := fun e => hxi (by cases hx : (nd p).it; cases x; rw [hx] at hkk e; simp at hkk e; simp [hkk, e])
          clear hxi
          go_wp2_with fail
          go_quiet ((go_at_call 55; exact Calls.quiet_of_same (flp (node_any (s2.kp0 ((Kp.refl No _).drewN _)) p p1 p2))))
          clear hkk hid'
          have k4 : Kp No w1 (w'.drewN nq) := hk.drewN nq
          have hv4 := hv.kp0 ((Kp.refl No w').drewN nq)
          have s4 := h1.kp0 k4
          have b4 := bx.kp0 k4
          clear ck ci cx0 cx1 s2 b2 hbl hv hk
          generalize w'.drewN nq = w4 at k4 hv4 s4 b4 ⊢
          have ck := s4.key p1 p2
          have ci := s4.id p1 p2
          have cx0 := b4.cell 0
          have cx1 := b4.cell 1
          simp at cx0 cx1
          have s5 := s4.kp0 (Kp.refl No _).drew
          go_wp2_with fail
          refine region_tail 7 (by kernel_rfl) (by kernel_rfl) ?_
          simp only [List.take_succ_cons, List.take_zero, List.drop_succ_cons, List.drop_zero]
          repeat still_step
          still_call (flp (node_any s5 p p1 p2))
          repeat still_step
          refine wpStill_nil ?_
          go_wp2_with fail
          refine (less_any (nd p).it x _).mono ?_
          rintro e w6 ⟨rfl, k6⟩
          have k6' : Kp No w1 w6 := k4.trans ((Kp.refl No w4).drew.trans k6)
          have hv6 := hv4.kp0 ((Kp.refl No w4).drew.trans k6)
          have s6 := h1.kp0 k6'
          clear ck ci cx0 cx1 s4 b4 s5 hv4 k4 k6
          cases hl : ltB (nd p).it x with
          | true =>
            have HL := hid hl
            clear hl
            go_wp2_with (first
              | (at_builtin
                 refine wp_apps usStep sc_one rfl (.tmp 38) (.tmp 42) rfl (base := w1.heap.size) (xs := fs.reverse) (ys := [⟨p, 1, l⟩]) (hv6.kp0 ((Kp.refl No _).alloc _)) (Rw.step1 _ p 1 l) (by simp; omega) (by simp [maxLen]; omega) (by have := k6'.size; simp; omega) ?_
                 intro v1 w7 hown1 hk1
                 have k7 : Kp No w1 w7 := (k6'.alloc _).step hk1 fun i hi h => absurd hi (by omega)))
            have s7 := h1.kp0 k7
            have cd := s7.hi p1 p2
            rw [hTt.2.1] at cd
            refine (node_any s7 p p1 p2).mono ?_
            rintro e w' ⟨rfl, rfl⟩
            go_wp2_with fail
            go_step3
            refine ⟨rfl, ⟨⟨p, 1, l⟩ :: fs, r, v1, _, _, _, _, _, _, _, _, _, _, _, _, _, _, _, _, _, _, _, _, _, _, _, _, _, _, _, _, _, _, _, _, _, _, _, _, _, _, _, _, _, _, _, _, rfl, k7, by rw [List.reverse_cons]; exact hown1, hw.down1 hs HL.out⟩, ?_⟩
            show T.ht + 1 - lenOf v1 < T.ht + 1 - lenOf V
            rw [ow_len hown1, ow_len hv6]
            simp
            omega
          | false =>
            have hx' : ltB x (nd p).it = true := by
              rcases ltB_tri (nd p).it x with h | h | h
              · rw [hl] at h; cases h
              · exact absurd h HXI.out
              · exact h
            have HL := hid hl
            clear hl
            go_wp2_with (first
              | (at_builtin
                 refine wp_apps usStep sc_one rfl (.tmp 38) (.tmp 42) rfl (base := w1.heap.size) (xs := fs.reverse) (ys := [⟨p, 0, r⟩]) (hv6.kp0 ((Kp.refl No _).alloc _)) (Rw.step1 _ p 0 r) (by simp; omega) (by simp [maxLen]; omega) (by have := k6'.size; simp; omega) ?_
                 intro v1 w7 hown1 hk1
                 have k7 : Kp No w1 w7 := (k6'.alloc _).step hk1 fun i hi h => absurd hi (by omega)))
            have s7 := h1.kp0 k7
            have cd := s7.lo p1 p2
            rw [hTt.1] at cd
            refine (node_any s7 p p1 p2).mono ?_
            rintro e w' ⟨rfl, rfl⟩
            go_wp2_with fail
            go_step3
            refine ⟨rfl, ⟨⟨p, 0, r⟩ :: fs, l, v1, _, _, _, _, _, _, _, _, _, _, _, _, _, _, _, _, _, _, _, _, _, _, _, _, _, _, _, _, _, _, _, _, _, _, _, _, _, _, _, _, _, _, _, _, rfl, k7, by rw [List.reverse_cons]; exact hown1, hw.down0 hs hx'⟩, ?_⟩
            show T.ht + 1 - lenOf v1 < T.ht + 1 - lenOf V
            rw [ow_len hown1, ow_len hv6]
            simp
            omega
        · clear hxi
          go_wp2_with fail
          go_quiet ((go_at_call 55; exact Calls.quiet_of_same (flp (node_any (s2.kp0 ((Kp.refl No _).drewN _)) p p1 p2))))
          clear hkk
          have k4 : Kp No w1 (w'.drewN nq) := hk.drewN nq
          have hv4 := hv.kp0 ((Kp.refl No w').drewN nq)
          have s4 := h1.kp0 k4
          have b4 := bx.kp0 k4
          clear ck ci cx0 cx1 s2 b2 hbl hv hk
          generalize w'.drewN nq = w4 at k4 hv4 s4 b4 ⊢
          have ck := s4.key p1 p2
          have ci := s4.id p1 p2
          have cx0 := b4.cell 0
          have cx1 := b4.cell 1
          simp at cx0 cx1
          have s5 := s4.kp0 (Kp.refl No _).drew
          go_wp2_with fail
          refine region_tail 7 (by kernel_rfl) (by kernel_rfl) ?_
          simp only [List.take_succ_cons, List.take_zero, List.drop_succ_cons, List.drop_zero]
          repeat still_step
          still_call (flp (node_any s5 p p1 p2))
          repeat still_step
          refine wpStill_nil ?_
          go_wp2_with fail
          refine (less_any (nd p).it x _).mono ?_
          rintro e w6 ⟨rfl, k6⟩
          have k6' : Kp No w1 w6 := k4.trans ((Kp.refl No w4).drew.trans k6)
          have hv6 := hv4.kp0 ((Kp.refl No w4).drew.trans k6)
          have s6 := h1.kp0 k6'
          clear ck ci cx0 cx1 s4 b4 s5 hv4 k4 k6
          cases hl : ltB (nd p).it x with
          | true =>
            have HL := hid hl
            clear hl
            go_wp2_with (first
              | (at_builtin
                 refine wp_apps usStep sc_one rfl (.tmp 38) (.tmp 42) rfl (base := w1.heap.size) (xs := fs.reverse) (ys := [⟨p, 1, l⟩]) (hv6.kp0 ((Kp.refl No _).alloc _)) (Rw.step1 _ p 1 l) (by simp; omega) (by simp [maxLen]; omega) (by have := k6'.size; simp; omega) ?_
                 intro v1 w7 hown1 hk1
                 have k7 : Kp No w1 w7 := (k6'.alloc _).step hk1 fun i hi h => absurd hi (by omega)))
            have s7 := h1.kp0 k7
            have cd := s7.hi p1 p2
            rw [hTt.2.1] at cd
            refine (node_any s7 p p1 p2).mono ?_
            rintro e w' ⟨rfl, rfl⟩
            go_wp2_with fail
            go_step3
            refine ⟨rfl, ⟨⟨p, 1, l⟩ :: fs, r, v1, _, _, _, _, _, _, _, _, _, _, _, _, _, _, _, _, _, _, _, _, _, _, _, _, _, _, _, _, _, _, _, _, _, _, _, _, _, _, _, _, _, _, _, _, rfl, k7, by rw [List.reverse_cons]; exact hown1, hw.down1 hs HL.out⟩, ?_⟩
            show T.ht + 1 - lenOf v1 < T.ht + 1 - lenOf V
            rw [ow_len hown1, ow_len hv6]
            simp
            omega
          | false =>
            have hx' : ltB x (nd p).it = true := by
              rcases ltB_tri (nd p).it x with h | h | h
              · rw [hl] at h; cases h
              · exact absurd h HXI.out
              · exact h
            have HL := hid hl
            clear hl
            go_wp2_with (first
              | (at_builtin
                 refine wp_apps usStep sc_one rfl (.tmp 38) (.tmp 42) rfl (base := w1.heap.size) (xs := fs.reverse) (ys := [⟨p, 0, r⟩]) (hv6.kp0 ((Kp.refl No _).alloc _)) (Rw.step1 _ p 0 r) (by simp; omega) (by simp [maxLen]; omega) (by have := k6'.size; simp; omega) ?_
                 intro v1 w7 hown1 hk1
                 have k7 : Kp No w1 w7 := (k6'.alloc _).step hk1 fun i hi h => absurd hi (by omega)))
            have s7 := h1.kp0 k7
            have cd := s7.lo p1 p2
            rw [hTt.1] at cd
            refine (node_any s7 p p1 p2).mono ?_
            rintro e w' ⟨rfl, rfl⟩
            go_wp2_with fail
            go_step3
            refine ⟨rfl, ⟨⟨p, 0, r⟩ :: fs, l, v1, _, _, _, _, _, _, _, _, _, _, _, _, _, _, _, _, _, _, _, _, _, _, _, _, _, _, _, _, _, _, _, _, _, _, _, _, _, _, _, _, _, _, _, _, rfl, k7, by rw [List.reverse_cons]; exact hown1, hw.down0 hs hx'⟩, ?_⟩
            show T.ht + 1 - lenOf v1 < T.ht + 1 - lenOf V
            rw [ow_len hown1, ow_len hv6]
            simp
            omega
  · intro pass
    obtain ⟨c0, c1⟩ := h1.head
    have hgl : g < w1.heap.size := h1.hd.lt
    have h2 := h1.kp0 (Kp.refl No _).drew
    have HZ := hid hz
    have HX := hid hX
    clear hz hX
    go_wp2_with fail
    go_region_with (go_at_call 34; refine (Deep_any h2 hT hi rfl).mono ?_; rintro e w' ⟨rfl, rfl⟩)
    all_goals
      go_simp
      have go_on0 := ‹∀ (a : Act) (w : World), Code.wp _ _ _ a w → _›
      refine go_on0 _ _ ?_
      clear go_on0
      go_wp2_with fail
      go_step3
      have go_on := ‹∀ (a : Act) (w : World), Code.wp _ _ _ a w → _›
      refine go_on _ _ (pass _ _ ⟨[], T, _, _, _, _, _, _, _, _, _, _, _, _, _, _, _, _, _, _, _, _, _, _, _, _, _, _, _, _, _, _, _, _, _, _, _, _, _, _, _, _, _, _, _, _, _, rfl, ((Kp.refl No w1).alloc _).drew, ?_, ⟨rfl, trivial, by simp [lc], by simp [rc]⟩⟩)
      exact ⟨by simp [flat], .inr ⟨w1.heap.size, T.ht, X, rfl, Nat.le_refl _, heap_alloc_new w1 _, by simp, by simp only [maxLen]; omega, HX.out, by simp [flat]⟩⟩
end
end Go.Proofs.Ytpbnmfoecmhnnaa
