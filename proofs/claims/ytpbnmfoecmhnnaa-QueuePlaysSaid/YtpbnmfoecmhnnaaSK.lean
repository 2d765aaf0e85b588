/-
  Contracts: Drop, Rank.
-/
import Derived.Test.YtpbnmfoecmhnnaaSJ
namespace Go.Proofs.Ytpbnmfoecmhnnaa
open Go.RowKit

section
variable {w w' : World} {g b c n top : Nat} {nd nd' : Nat → Nd} {S : Nat → Prop}

theorem drop_not {T : BT} (x : It) (hx : x ∉ items nd T)
    (hway : ∀ w1, Kp No w w1 → Calls Try.prog 54 #[.pointer (some ⟨g, 0, none⟩), .agg #[.int .i64 x.key, .int .i64 x.id]] w1 (WayE w1 nd x T)) :
    Calls Try.prog 20 #[.pointer (some ⟨g, 0, none⟩), .agg #[.int .i64 x.key, .int .i64 x.id]] w fun e w' => e = .returned (.bool false) ∧ Kp No w w' := by
  go_enter Try.func20, Try.ntmps20
  go_wp2_with fail
  have k1 := (Kp.refl No w).alloc (.cells #[.int .i64 x.key, .int .i64 x.id] 24)
  generalize w.alloc (.cells #[.int .i64 x.key, .int .i64 x.id] 24) = w1 at k1 ⊢
  refine (hway w1 k1).mono ?_
  intro e w2 he
  obtain ⟨v, rfl, k2⟩ := he.not hx
  go_wp2_with fail
  go_ret
  exact ⟨rfl, k1.trans k2⟩

def dropL (l : List It) (x : It) : List It := l.filter fun y => decide (y ≠ x)
theorem dropL_not {l : List It} {x : It} (h : x ∉ l) : dropL l x = l := by
  unfold dropL
  exact List.filter_eq_self.2 fun y hy => by
    have : y ≠ x := by rintro rfl; exact h hy
    simp [this]
theorem dropL_mid {L R : List It} {x : It} (h : Sorted (L ++ x :: R)) : dropL (L ++ x :: R) x = L ++ R := by
  unfold Sorted at h
  rw [List.pairwise_append, List.pairwise_cons] at h
  unfold dropL
  rw [List.filter_append, List.filter_cons, if_neg (by simp), List.filter_eq_self.2, List.filter_eq_self.2]
  · intro y hy
    have := ltB_ne (h.2.1.1 y hy)
    simp [Ne.symm this]
  · intro y hy
    have := ltB_ne (h.2.2 y hy x (by simp))
    simp [this]

theorem Drop_any {l : List It} (h : Shf w g S l) (x : It) :
    Calls Try.prog 20 #[.pointer (some ⟨g, 0, none⟩), .agg #[.int .i64 x.key, .int .i64 x.id]] w fun e w' => e = .returned (.bool (decide (x ∈ l))) ∧ Kp S w w' ∧ Shf w' g S (dropL l x) := by
  have hso := h.sorted
  by_cases hx : x ∈ l
  · rw [decide_eq_true hx]
    rcases h.2 with ⟨rfl, h2⟩ | ⟨b, c, n, nd, T, hb, h2, h3, rfl⟩
    · cases hx
    · refine (drop_core h2 rfl h3 x hx).mono ?_
      rintro e w' ⟨rfl, k, nd', T', L, R, s', i', e1, e2⟩
      refine ⟨rfl, k.mono fun i _ hi => ?_, h.1, .inr ⟨b, c, n - 1, nd', T', hb, s', i', ?_⟩⟩
      · rcases hi with rfl | rfl
        · exact h.1
        · exact hb
      · rw [e2, e1, dropL_mid (by rw [← e1]; exact hso)]
  · rw [decide_eq_false hx, dropL_not hx]
    have fin : ∀ e w', (e = Ending.returned (.bool false) ∧ Kp No w w') → e = Ending.returned (.bool false) ∧ Kp S w w' ∧ Shf w' g S l := fun e w' he => ⟨he.1, he.2.all, h.kp0 he.2⟩
    rcases h.2 with ⟨rfl, h2⟩ | ⟨b, c, n, nd, T, hb, h2, h3, rfl⟩
    · exact (drop_not (nd := ndz) (T := .nil) x (by simp [items, BT.pls]) (fun w1 k => way_nil (h2.kp0 k) x)).mono fin
    · exact (drop_not x hx (fun w1 k => way_any (h2.kp0 k) h3.tr rfl h3.ins h3.nodup h3.srt x)).mono fin

/-- How many are less. -/
def rnk (l : List It) (x : It) : Nat := l.countP fun y => ltB y x

structure RankW (nd : Nat → Nd) (x : It) (T : BT) (fs : List Fr) (t : BT) : Prop where
  plug : T = plug fs t
  sds : Sds fs
  low : ∀ q ∈ lc fs, ltB (nd q).it x = true
  high : ∀ q ∈ rc fs, ltB (nd q).it x = false
theorem RankW.down0 {x : It} {T l r : BT} {fs : List Fr} {p : Nat} (h : RankW nd x T fs (.node p l r)) (hs : Srt nd T.pls) (hx : ltB (nd p).it x = false) : RankW nd x T (⟨p, 0, r⟩ :: fs) l := by
  obtain ⟨h1, h2, h3, h4⟩ := h
  refine ⟨by rw [h1]; simp [Go.Proofs.Ytpbnmfoecmhnnaa.plug, plug1], ⟨.inl rfl, h2⟩, by simpa [lc] using h3, fun q hq => ?_⟩
  simp only [rc, if_true, List.mem_append, List.mem_cons] at hq
  rcases hq with (rfl | hq) | hq
  · exact hx
  · rw [h1, plug_pls] at hs
    unfold Srt at hs
    simp only [BT.pls, List.map_append, List.map_cons, List.pairwise_append, List.pairwise_cons, List.mem_map, List.mem_append, List.mem_cons] at hs
    have h5 := hs.2.1.1.2.1.1 _ ⟨q, hq, rfl⟩
    cases h6 : ltB (nd q).it x with
    | false => rfl
    | true => rw [ltB_trans h5 h6] at hx; cases hx
  · exact h4 q hq
theorem RankW.down1 {x : It} {T l r : BT} {fs : List Fr} {p : Nat} (h : RankW nd x T fs (.node p l r)) (hs : Srt nd T.pls) (hx : ltB (nd p).it x = true) : RankW nd x T (⟨p, 1, l⟩ :: fs) r := by
  obtain ⟨h1, h2, h3, h4⟩ := h
  refine ⟨by rw [h1]; simp [Go.Proofs.Ytpbnmfoecmhnnaa.plug, plug1], ⟨.inr rfl, h2⟩, fun q hq => ?_, by simpa [rc] using h4⟩
  simp only [lc, List.mem_append, List.mem_singleton, if_neg (show ¬ (1 : Nat) = 0 by omega)] at hq
  rcases hq with hq | hq | rfl
  · exact h3 q hq
  · rw [h1, plug_pls] at hs
    unfold Srt at hs
    simp only [BT.pls, List.map_append, List.map_cons, List.pairwise_append, List.pairwise_cons, List.mem_map, List.mem_append, List.mem_cons] at hs
    exact ltB_trans (hs.2.1.1.2.2 _ ⟨q, hq, rfl⟩ _ (.inl rfl)) hx
  · exact hx
theorem RankW.done {x : It} {T : BT} {fs : List Fr} (h : RankW nd x T fs .nil) : rnk (items nd T) x = (lc fs).length := by
  unfold rnk items
  rw [h.plug, plug_pls]
  simp only [BT.pls, List.nil_append, List.map_append, List.countP_append, List.countP_map]
  rw [List.countP_eq_length.2 (fun q hq => by simpa using h.low q hq), List.countP_eq_zero.2 (fun q hq => by simpa using h.high q hq)]
  rfl
/-- The depth below a place, as the nodes say it. -/
def mu (nd : Nat → Nd) (v : Value) : Nat := if (intOf v).toNat = 0 then 0 else (nd (intOf v).toNat).deep
theorem mu_eq {t : BT} (hT : Tr nd t) (hI : In n t.pls) : mu nd (.int .i64 (t.root : Int)) = t.ht := by
  cases t with
  | nil => rfl
  | node p l r =>
    have hp := hI.p.1
    unfold mu
    rw [show (intOf (.int .i64 ((BT.node p l r).root : Int))).toNat = p by simp [intOf, BT.root], if_neg (by omega), hT.2.2.2.1]
    rfl

set_option maxRecDepth 100000 in
set_option maxHeartbeats 1000000 in
theorem rank_core (h : Sh w g b c n nd top) {T : BT} (hr : T.root = top) (hI : Inv nd n T) (x : It) :
    Calls Try.prog 30 #[.pointer (some ⟨g, 0, none⟩), .agg #[.int .i64 x.key, .int .i64 x.id]] w fun e w' => e = .returned (.int .i64 (rnk (items nd T) x : Int)) ∧ Kp No w w' := by
  subst hr
  have hsm := h.small
  have hi := hI.ins
  have hs := hI.srt
  have hT := hI.tr
  have hle : T.sz ≤ n := hi.len hI.nodup
  go_enter Try.func30, Try.ntmps30
  go_wp2_with fail
  have bx := Blk.new w 24 #[.int .i64 x.key, .int .i64 x.id]
  have k1 := (Kp.refl No w).alloc (.cells #[.int .i64 x.key, .int .i64 x.id] 24)
  have h1 := h.kp0 k1
  generalize w.alloc (.cells #[.int .i64 x.key, .int .i64 x.id] 24) = w1 at bx k1 h1 ⊢
  refine wp_scope_pass 0 (fun a' w' => ∃ (fs : List Fr) (t : BT) (m : Nat) (u7 u8 u9 u10 u11 u12 u13 u14 u15 u16 u17 u18 u19 u20 u21 u22 u23 u24 u25 u26 u27 u28 u29 u30 u31 u32 u33 u34 u35 u36 : Value), a' = { tmps := #[.pointer (some ⟨g, 0, none⟩), .agg #[.int .i64 x.key, .int .i64 x.id], undef, .pointer (some ⟨w.heap.size, 0, none⟩), .int .i64 0, .int .i64 (m : Int), .int .i64 (t.root : Int), u7, u8, u9, u10, u11, u12, u13, u14, u15, u16, u17, u18, u19, u20, u21, u22, u23, u24, u25, u26, u27, u28, u29, u30, u31, u32, u33, u34, u35, u36], defers := [] } ∧ Kp No w1 w' ∧ RankW nd x T fs t ∧ m = (lc fs).length)
    (fun a' _ => mu nd (a'.tmps.getD 6 undef)) rfl ?_ ?_
  · rintro a' w' ⟨fs, t, m, u7, u8, u9, u10, u11, u12, u13, u14, u15, u16, u17, u18, u19, u20, u21, u22, u23, u24, u25, u26, u27, u28, u29, u30, u31, u32, u33, u34, u35, u36, rfl, hk, hw, hm⟩
    have s2 := h1.kp0 hk
    have b2 := bx.kp0 hk
    obtain ⟨hTt, hTf⟩ := Tr.plug hw.sds (hw.plug ▸ hT)
    have hpl := plug_pls fs t
    rw [← hw.plug] at hpl
    have iT : In n t.pls := fun q hq => hi q (by rw [hpl]; simp [hq])
    have hmn : m + t.sz ≤ n := by
      have := congrArg List.length hpl
      simp only [List.length_append] at this
      rw [BT.sz] at hle ⊢
      omega
    have HM := hid hm
    clear hm
    cases t with
    | nil =>
      rw [show ((BT.nil.root : Nat) : Int) = 0 from rfl]
      go_wp2_with fail
      simp only [Exit.jump]
      go_ret
      exact ⟨by rw [hw.done, ← HM.out]; rfl, k1.trans hk⟩
    | node p l r =>
      obtain ⟨p1, p2⟩ := iT.p
      rw [BT.sz_node] at hmn
      have cx0 := b2.cell 0
      have cx1 := b2.cell 1
      simp at cx0 cx1
      have ck := s2.key p1 p2
      have ci := s2.id p1 p2
      have hb := nz p1
      simp only [BT.root]
      go_wp2_with fail
      refine (node_any s2 p p1 p2).mono ?_
      rintro e w' ⟨rfl, rfl⟩
      go_wp2_with fail
      refine region_tail 5 (by kernel_rfl) (by kernel_rfl) ?_
      simp only [List.take_succ_cons, List.take_zero, List.drop_succ_cons, List.drop_zero]
      repeat still_step
      refine wpStill_nil ?_
      go_wp2_with fail
      refine (less_any (nd p).it x _).mono ?_
      rintro e w6 ⟨rfl, k6'⟩
      have k6 : Kp No w1 w6 := hk.trans ((Kp.refl No _).drew.trans k6')
      have s6 := h1.kp0 k6
      clear ck ci cx0 cx1 s2 b2 k6'
      cases hl : ltB (nd p).it x with
      | true =>
        have cd := s6.hi p1 p2
        rw [hTt.2.1] at cd
        have HL := hid hl
        clear hl
        go_wp2_with fail
        refine (ahead_any s6 hTt iT).mono ?_
        rintro e w' ⟨rfl, rfl⟩
        go_wp2_with fail
        rw [show (m : Int) + ((l.sz : Int) + 1) = ((m + (l.sz + 1) : Nat) : Int) by omega]
        go_step3
        refine ⟨rfl, ⟨⟨p, 1, l⟩ :: fs, r, m + (l.sz + 1), _, _, _, _, _, _, _, _, _, _, _, _, _, _, _, _, _, _, _, _, _, _, _, _, _, _, _, _, _, _, rfl, k6, hw.down1 hs HL.out, by simp [lc, HM.out, BT.sz]⟩, ?_⟩
        show mu nd (.int .i64 (r.root : Int)) < mu nd (.int .i64 ((BT.node p l r).root : Int))
        rw [mu_eq (n := n) hTt.2.2.2.2.2 iT.r, mu_eq (n := n) hTt iT]
        simp only [BT.ht]
        omega
      | false =>
        have cd := s6.lo p1 p2
        rw [hTt.1] at cd
        have HL := hid hl
        clear hl
        go_wp2_with fail
  
        go_step3
        refine ⟨rfl, ⟨⟨p, 0, r⟩ :: fs, l, m, _, _, _, _, _, _, _, _, _, _, _, _, _, _, _, _, _, _, _, _, _, _, _, _, _, _, _, _, _, _, rfl, k6, hw.down0 hs HL.out, by simpa [lc] using HM.out⟩, ?_⟩
        show mu nd (.int .i64 (l.root : Int)) < mu nd (.int .i64 ((BT.node p l r).root : Int))
        rw [mu_eq (n := n) hTt.2.2.2.2.1 iT.l, mu_eq (n := n) hTt iT]
        simp only [BT.ht]
        omega
  · intro pass
    obtain ⟨c0, c1⟩ := h1.head
    go_wp2_with fail
    go_region
    go_wp2_with fail
    go_step3
    have go_on := ‹∀ (a : Act) (w : World), Code.wp _ _ _ a w → _›
    exact go_on _ _ (pass _ _ ⟨[], T, 0, _, _, _, _, _, _, _, _, _, _, _, _, _, _, _, _, _, _, _, _, _, _, _, _, _, _, _, _, _, _, rfl, (Kp.refl No w1).drew, ⟨rfl, trivial, by simp [lc], by simp [rc]⟩, rfl⟩)
end
end Go.Proofs.Ytpbnmfoecmhnnaa
