/-
  Contracts: way on a shelf that never had items; Put, Has, Len, New.
-/
import Derived.Test.YtpbnmfoecmhnnaaSF
namespace Go.Proofs.Ytpbnmfoecmhnnaa
open Go.RowKit

section
variable {w w' : World} {g b c n top : Nat} {nd nd' : Nat → Nd} {S : Nat → Prop}

def ndz : Nat → Nd := fun _ => nd0
theorem deep_nil (w : World) (g : Nat) :
    Calls Try.prog 61 #[.pointer (some ⟨g, 0, none⟩), .int .i64 0] w fun e w' => e = .returned (.int .i64 0) ∧ w = w' := by
  go_enter Try.func61, Try.ntmps61
  go_wp2
  go_ret
  exact ⟨rfl, rfl⟩
theorem Deep_nil (h : Blk w g 97 #[.slice none 0 0, .int .i64 0]) :
    Calls Try.prog 34 #[.pointer (some ⟨g, 0, none⟩)] w fun e w' => e = .returned (.int .i64 0) ∧ w = w' := by
  have c1 := h.cell 1
  simp at c1
  go_enter Try.func34, Try.ntmps34
  go_wp2_with fail
  refine (deep_nil w g).mono ?_
  rintro e w' ⟨rfl, rfl⟩
  go_wp2_with fail
  go_ret
  exact ⟨rfl, rfl⟩
theorem inv_nil : Inv ndz 0 .nil := ⟨trivial, trivial, List.nodup_nil, rfl, (fun _ h => by cases h), List.Pairwise.nil⟩

set_option maxRecDepth 100000 in
set_option maxHeartbeats 1000000 in
theorem way_nil (h : Blk w g 97 #[.slice none 0 0, .int .i64 0]) (x : It) :
    Calls Try.prog 54 #[.pointer (some ⟨g, 0, none⟩), .agg #[.int .i64 x.key, .int .i64 x.id]] w (WayE w ndz x .nil) := by
  obtain ⟨X, hX, hmk⟩ := mk_run 0 (by omega)
  have hmk' : ∀ w, (Instr.makeSlice 98 (.int .i64 0) (.int .i64 0)).run Try.prog w = .ok (.slice (some ⟨w.heap.size, 0, none⟩) 0 0) (w.alloc (.cells X 135)) := hmk
  clear hmk
  go_enter Try.func54, Try.ntmps54
  go_wp2_with fail
  have k1 := (Kp.refl No w).alloc (.cells #[.int .i64 x.key, .int .i64 x.id] 24)
  have h1 := h.kp0 k1
  generalize w.alloc (.cells #[.int .i64 x.key, .int .i64 x.id] 24) = w1 at k1 h1 ⊢
  have c1 := h1.cell 1
  simp at c1
  have hgl := h1.lt
  have h2 := h1.kp0 (Kp.refl No _).drew
  have HX := hid hX
  clear hX
  go_step3
  go_wp2_with fail
  go_region_with (go_at_call 34; refine (Deep_nil h2).mono ?_; rintro e w' ⟨rfl, rfl⟩)
  all_goals
    go_simp
    have go_on0 := ‹∀ (a : Act) (w : World), Code.wp _ _ _ a w → _›
    refine go_on0 _ _ ?_
    clear go_on0
    have o2 : Ow (w1.alloc (.cells X 135)).drew w1.heap.size 135 2 sc (.slice (some ⟨w1.heap.size, 0, none⟩) 0 0) ([] : List Fr) :=
      ⟨by simp [flat], .inr ⟨w1.heap.size, 0, X, rfl, Nat.le_refl _, heap_alloc_new w1 _, by simp, by simp, HX.out, by simp [flat]⟩⟩
    have k2 := ((Kp.refl No w1).alloc (.cells X 135)).drew
    change Code.wp _ _ _ _ (w1.alloc (.cells X 135)).drew
    generalize (w1.alloc (.cells X 135)).drew = w2 at o2 k2 ⊢
    go_wp2_with fail
    go_step3
    go_wp2_with fail
    go_quiet (fail)
    go_wp2_with fail
    simp only [Exit.noGoto]
    exact bodyPost_ret (v := .tuple #[.slice (some ⟨w1.heap.size, 0, none⟩) 0 0, .int .i64 0]) (by simp [results, Try.results54, go_sem]) rfl ⟨_, [], .nil, rfl, (k1.trans k2).drewN _, (o2.kp0 ((Kp.refl No _).drewN _)).lower k1.size, ⟨rfl, trivial, by simp [lc], by simp [rc]⟩, .inl rfl⟩

/-- What way tells of an item that is there, and of one that isn't. -/
theorem WayE.there {x : It} {T : BT} {e : Ending} (h : WayE w nd x T e w') (hx : x ∈ items nd T) : ∃ (v : Value) (fs : List Fr) (p : Nat) (l r : BT), e = .returned (.tuple #[v, .int .i64 (p : Int)]) ∧ Kp No w w' ∧ Ow w' w.heap.size 135 2 sc v fs.reverse ∧ Way nd x T fs (.node p l r) ∧ (nd p).it = x := by
  obtain ⟨v, fs, t, rfl, k, o, hw, ht⟩ := h
  rcases ht with rfl | ⟨p, l, r, rfl, hp⟩
  · obtain ⟨q, hq, rfl⟩ := List.mem_map.1 hx
    rw [hw.plug, plug_pls] at hq
    simp only [BT.pls, List.nil_append, List.mem_append] at hq
    rcases hq with hq | hq
    · have := hw.low q hq
      rw [ltB_irr] at this
      cases this
    · have := hw.high q hq
      rw [ltB_irr] at this
      cases this
  · exact ⟨v, fs, p, l, r, rfl, k, o, hw, hp⟩
theorem WayE.not {x : It} {T : BT} {e : Ending} (h : WayE w nd x T e w') (hx : x ∉ items nd T) : ∃ v, e = .returned (.tuple #[v, .int .i64 0]) ∧ Kp No w w' := by
  obtain ⟨v, fs, t, rfl, k, o, hw, ht⟩ := h
  rcases ht with rfl | ⟨p, l, r, rfl, hp⟩
  · exact ⟨v, rfl, k⟩
  · refine absurd ?_ hx
    rw [← hp]
    refine List.mem_map.2 ⟨p, ?_, rfl⟩
    rw [hw.plug, plug_pls]
    simp [BT.pls]

def putL (l : List It) (x : It) : List It := if x ∈ l then l else l.filter (fun y => ltB y x) ++ x :: l.filter (fun y => ltB x y)
theorem putL_new {L R : List It} {x : It} (hL : ∀ y ∈ L, ltB y x = true) (hR : ∀ y ∈ R, ltB x y = true) : putL (L ++ R) x = L ++ x :: R := by
  unfold putL
  rw [if_neg, List.filter_append, List.filter_append, List.filter_eq_self.2 hL, List.filter_eq_self.2 hR]
  · rw [List.filter_eq_nil_iff.2, List.filter_eq_nil_iff.2]
    · simp
    · intro y hy
      rw [ltB_asymm (hL y hy)]
      simp
    · intro y hy
      rw [ltB_asymm (hR y hy)]
      simp
  · intro h
    rcases List.mem_append.1 h with h | h
    · exact ltB_ne (hL x h) rfl
    · exact ltB_ne (hR x h) rfl

theorem put_old {T : BT} (x : It) (hx : x ∈ items nd T)
    (hway : ∀ w1, Kp No w w1 → Calls Try.prog 54 #[.pointer (some ⟨g, 0, none⟩), .agg #[.int .i64 x.key, .int .i64 x.id]] w1 (WayE w1 nd x T)) (hI : Inv nd n T) :
    Calls Try.prog 22 #[.pointer (some ⟨g, 0, none⟩), .agg #[.int .i64 x.key, .int .i64 x.id]] w fun e w' => e = .returned (.bool false) ∧ Kp No w w' := by
  go_enter Try.func22, Try.ntmps22
  go_wp2_with fail
  have k1 := (Kp.refl No w).alloc (.cells #[.int .i64 x.key, .int .i64 x.id] 24)
  generalize w.alloc (.cells #[.int .i64 x.key, .int .i64 x.id] 24) = w1 at k1 ⊢
  refine (hway w1 k1).mono ?_
  intro e w2 he
  obtain ⟨v, fs, p, l, r, rfl, k2, hv, hw, hp⟩ := he.there hx
  have hp1 : 1 ≤ p := (hI.ins p (by rw [hw.plug, plug_pls]; simp [BT.pls])).1
  have hb := nz' hp1
  have HP := hid hp
  clear hp hv hw
  go_wp2_with fail
  go_ret
  exact ⟨rfl, k1.trans k2⟩

theorem has_core {T : BT} (x : It)
    (hway : ∀ w1, Kp No w w1 → Calls Try.prog 54 #[.pointer (some ⟨g, 0, none⟩), .agg #[.int .i64 x.key, .int .i64 x.id]] w1 (WayE w1 nd x T)) (hI : Inv nd n T) :
    Calls Try.prog 25 #[.pointer (some ⟨g, 0, none⟩), .agg #[.int .i64 x.key, .int .i64 x.id]] w fun e w' => e = .returned (.bool (decide (x ∈ items nd T))) ∧ Kp No w w' := by
  by_cases hx : x ∈ items nd T
  · have HX := hid hx
    rw [decide_eq_true hx]
    clear hx
    go_enter Try.func25, Try.ntmps25
    go_wp2_with fail
    have k1 := (Kp.refl No w).alloc (.cells #[.int .i64 x.key, .int .i64 x.id] 24)
    generalize w.alloc (.cells #[.int .i64 x.key, .int .i64 x.id] 24) = w1 at k1 ⊢
    refine (hway w1 k1).mono ?_
    intro e w2 he
    obtain ⟨v, fs, p, l, r, rfl, k2, hv, hw, hp⟩ := he.there HX.out
    have hp1 : 1 ≤ p := (hI.ins p (by rw [hw.plug, plug_pls]; simp [BT.pls])).1
    have hb := nz' hp1
    have HP := hid hp
    clear hp hv hw
    go_wp2_with fail
    go_ret
    exact ⟨rfl, k1.trans k2⟩
  · have HX := hid hx
    rw [decide_eq_false hx]
    clear hx
    go_enter Try.func25, Try.ntmps25
    go_wp2_with fail
    have k1 := (Kp.refl No w).alloc (.cells #[.int .i64 x.key, .int .i64 x.id] 24)
    generalize w.alloc (.cells #[.int .i64 x.key, .int .i64 x.id] 24) = w1 at k1 ⊢
    refine (hway w1 k1).mono ?_
    intro e w2 he
    obtain ⟨v, rfl, k2⟩ := he.not HX.out
    go_wp2_with fail
    go_ret
    exact ⟨rfl, k1.trans k2⟩

theorem Has_any {l : List It} (h : Shf w g S l) (x : It) :
    Calls Try.prog 25 #[.pointer (some ⟨g, 0, none⟩), .agg #[.int .i64 x.key, .int .i64 x.id]] w fun e w' => e = .returned (.bool (decide (x ∈ l))) ∧ Kp No w w' := by
  rcases h.2 with ⟨rfl, h2⟩ | ⟨b, c, n, nd, T, hb, h2, h3, rfl⟩
  · exact has_core (nd := ndz) (T := .nil) x (fun w1 k => way_nil (h2.kp0 k) x) inv_nil
  · exact has_core x (fun w1 k => way_any (h2.kp0 k) h3.tr rfl h3.ins h3.nodup h3.srt x) h3

theorem Put_any {l : List It} (h : Shf w g S l) (hl : l.length < 1000000) (x : It) :
    Calls Try.prog 22 #[.pointer (some ⟨g, 0, none⟩), .agg #[.int .i64 x.key, .int .i64 x.id]] w fun e w' => e = .returned (.bool (!decide (x ∈ l))) ∧ Kp S w w' ∧ Shf w' g (fun k => S k ∨ w.heap.size ≤ k) (putL l x) := by
  by_cases hx : x ∈ l
  · rw [decide_eq_true hx, show putL l x = l by unfold putL; rw [if_pos hx]]
    have fin : ∀ e w', (e = Ending.returned (.bool false) ∧ Kp No w w') → e = Ending.returned (.bool (!true)) ∧ Kp S w w' ∧ Shf w' g (fun k => S k ∨ w.heap.size ≤ k) l := fun e w' he => ⟨he.1, he.2.all, (h.kp0 he.2).mono fun i _ hi => .inl hi⟩
    rcases h.2 with ⟨rfl, h2⟩ | ⟨b, c, n, nd, T, hb, h2, h3, rfl⟩
    · cases hx
    · exact (put_old x hx (fun w1 k => way_any (h2.kp0 k) h3.tr rfl h3.ins h3.nodup h3.srt x) h3).mono fin
  · rw [decide_eq_false hx]
    rcases h.2 with ⟨rfl, h2⟩ | ⟨b, c, n, nd, T, hb, h2, h3, rfl⟩
    · refine (put_new (nd := ndz) (T := .nil) (top := 0) (n := 0) (c := 0) (A := none) h2 (by exact Ow.nil w 0 _ 6 nc) (fun k hk => by cases hk) inv_nil (by omega) x (by simp [items, BT.pls]) (fun w1 k => way_nil (h2.kp0 k) x)).mono ?_
      rintro e w' ⟨rfl, k, b', c', nd', T', L, R, hb', s', i', e1, e2, e3, e4⟩
      refine ⟨rfl, k.mono fun i _ hi => ?_, .inl h.1, .inr ⟨b', c', 1, nd', T', ?_, s', i', ?_⟩⟩
      · rcases hi with rfl | hi
        · exact h.1
        · cases hi
      · rcases hb' with hb' | hb'
        · cases hb'
        · exact .inr hb'
      · have e0 : L ++ R = [] := e1.symm
        rw [e4, show ([] : List It) = L ++ R from e0.symm, putL_new e2 e3]
    · refine (put_new h2.hd h2.row.ow (fun k hk => by cases hk; exact h2.ne) h3 (by rw [items, List.length_map, h3.len] at hl; exact hl) x hx (fun w1 k => way_any (h2.kp0 k) h3.tr rfl h3.ins h3.nodup h3.srt x)).mono ?_
      rintro e w' ⟨rfl, k, b', c', nd', T', L, R, hb', s', i', e1, e2, e3, e4⟩
      refine ⟨rfl, k.mono fun i _ hi => ?_, .inl h.1, .inr ⟨b', c', n + 1, nd', T', ?_, s', i', ?_⟩⟩
      · rcases hi with rfl | hi
        · exact h.1
        · cases hi
          exact hb
      · rcases hb' with hb' | hb'
        · cases hb'
          exact .inl hb
        · exact .inr hb'
      · rw [e4, e1, putL_new e2 e3]

theorem Len_any {l : List It} (h : Shf w g S l) :
    Calls Try.prog 24 #[.pointer (some ⟨g, 0, none⟩)] w fun e w' => e = .returned (.int .i64 (l.length : Int)) ∧ w = w' := by
  rcases h.2 with ⟨rfl, h2⟩ | ⟨b, c, n, nd, T, hb, h2, h3, rfl⟩
  · have c0 := h2.cell 0
    simp at c0
    go_enter Try.func24, Try.ntmps24
    go_wp2
    go_ret
    exact ⟨rfl, rfl⟩
  · have c0 := h2.head.1
    rw [show (items nd T).length = n by rw [items, List.length_map, h3.len]]
    go_enter Try.func24, Try.ntmps24
    go_wp2
    go_ret
    exact ⟨rfl, rfl⟩

theorem New_any (w : World) :
    Calls Try.prog 18 #[] w fun e w' => e = .returned (.pointer (some ⟨w.heap.size, 0, none⟩)) ∧ w' = w.alloc (.cells #[.slice none 0 0, .int .i64 0] 97) := by
  go_enter Try.func18, Try.ntmps18
  go_wp2
  go_ret
  exact ⟨rfl, rfl⟩
theorem Shf.new (w : World) (hS : S w.heap.size) : Shf (w.alloc (.cells #[.slice none 0 0, .int .i64 0] 97)) w.heap.size S [] := ⟨hS, .inl ⟨rfl, Blk.new w _ _⟩⟩
end
end Go.Proofs.Ytpbnmfoecmhnnaa
