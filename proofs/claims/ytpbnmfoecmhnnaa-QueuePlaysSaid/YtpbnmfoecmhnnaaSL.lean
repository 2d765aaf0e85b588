/-
  Contracts: Rank, At, Deep.
-/
import Derived.Test.YtpbnmfoecmhnnaaSK
namespace Go.Proofs.Ytpbnmfoecmhnnaa
open Go.RowKit

section
variable {w w' : World} {g b c n top : Nat} {nd nd' : Nat → Nd} {S : Nat → Prop}

theorem rank_nil (h : Blk w g 97 #[.slice none 0 0, .int .i64 0]) (x : It) :
    Calls Try.prog 30 #[.pointer (some ⟨g, 0, none⟩), .agg #[.int .i64 x.key, .int .i64 x.id]] w fun e w' => e = .returned (.int .i64 0) ∧ Kp No w w' := by
  go_enter Try.func30, Try.ntmps30
  go_wp2_with fail
  have k1 := (Kp.refl No w).alloc (.cells #[.int .i64 x.key, .int .i64 x.id] 24)
  have h1 := h.kp0 k1
  generalize w.alloc (.cells #[.int .i64 x.key, .int .i64 x.id] 24) = w1 at k1 h1 ⊢
  have c1 := h1.cell 1
  simp at c1
  go_step3
  go_wp2_with fail
  go_region
  go_wp2_with fail
  go_step3
  go_wp2_with fail
  simp only [Exit.noGoto]
  go_ret
  exact ⟨rfl, k1.drew⟩

theorem Rank_any {l : List It} (h : Shf w g S l) (x : It) :
    Calls Try.prog 30 #[.pointer (some ⟨g, 0, none⟩), .agg #[.int .i64 x.key, .int .i64 x.id]] w fun e w' => e = .returned (.int .i64 (rnk l x : Int)) ∧ Kp No w w' := by
  rcases h.2 with ⟨rfl, h2⟩ | ⟨b, c, n, nd, T, hb, h2, h3, rfl⟩
  · exact rank_nil h2 x
  · exact rank_core h2 rfl h3 x

/-- How deep a shelf with so many items is. -/
def DeepOk (d n : Nat) : Prop := 2 ^ ((d + 1) / 2) ≤ n + 1 ∧ n + 1 ≤ 2 ^ d ∧ d ≤ n
theorem deep_ok {l : List It} (h : Shf w g S l) :
    ∃ d, DeepOk d l.length ∧ Calls Try.prog 34 #[.pointer (some ⟨g, 0, none⟩)] w fun e w' => e = .returned (.int .i64 (d : Int)) ∧ w = w' := by
  rcases h.2 with ⟨rfl, h2⟩ | ⟨b, c, n, nd, T, hb, h2, h3, rfl⟩
  · exact ⟨0, ⟨by simp, by simp, by simp⟩, Deep_nil h2⟩
  · have e : (items nd T).length = T.sz := by rw [items, List.length_map, BT.sz]
    exact ⟨T.ht, ⟨by rw [e]; exact h3.bal.low, by rw [e]; exact T.high, by rw [e]; exact T.ht_le⟩, Deep_any h2 h3.tr h3.ins rfl⟩

def it0 : It := ⟨0, 0⟩

theorem at_out {l : List It} (h : Shf w g S l) (r : Int) (hr : r < 0 ∨ (l.length : Int) ≤ r) :
    Calls Try.prog 27 #[.pointer (some ⟨g, 0, none⟩), .int .i64 r] w fun e w' => e = .returned (.tuple #[.agg #[.int .i64 0, .int .i64 0], .bool false]) ∧ Kp No w w' := by
  rcases hr with hr | hr
  · go_enter Try.func27, Try.ntmps27
    go_wp2_with fail
    go_step3
    go_wp2_with fail
    simp only [Exit.noGoto]
    exact bodyPost_ret (v := .tuple #[.agg #[.int .i64 0, .int .i64 0], .bool false]) (by simp [results, Try.results27, go_sem]) rfl ⟨rfl, (Kp.refl No w).alloc _⟩
  · have hn : ¬ r < 0 := by omega
    go_enter Try.func27, Try.ntmps27
    go_wp2_with fail
    go_step3
    go_wp2_with fail
    refine (Len_any (h.kp0 ((Kp.refl No w).alloc _))).mono ?_
    rintro e w' ⟨rfl, rfl⟩
    go_wp2_with fail
    simp only [Exit.noGoto]
    exact bodyPost_ret (v := .tuple #[.agg #[.int .i64 0, .int .i64 0], .bool false]) (by simp [results, Try.results27, go_sem]) rfl ⟨rfl, (Kp.refl No w).alloc _⟩

/-- Where the one with a rank lies. -/
theorem at_here {T l r : BT} {fs : List Fr} {p k : Nat} (hp : T = plug fs (.node p l r)) (hk : (lc fs).length + l.sz = k) : (items nd T).getD k it0 = (nd p).it := by
  unfold items
  rw [hp, plug_pls, List.getD]
  simp only [BT.pls, List.map_append, List.map_cons]
  rw [← hk, BT.sz, List.getElem?_append_right (by simp)]
  simp only [List.length_map]
  rw [Nat.add_sub_cancel_left, List.getElem?_append_left (by simp), List.getElem?_append_right (by simp)]
  simp

set_option maxRecDepth 100000 in
set_option maxHeartbeats 1000000 in
theorem at_core (h : Sh w g b c n nd top) {T : BT} (hr : T.root = top) (hI : Inv nd n T) (hb : S g) (hb' : S b) (k : Nat) (hkn : k < n) :
    Calls Try.prog 27 #[.pointer (some ⟨g, 0, none⟩), .int .i64 (k : Int)] w fun e w' => e = .returned (.tuple #[.agg #[.int .i64 ((items nd T).getD k it0).key, .int .i64 ((items nd T).getD k it0).id], .bool true]) ∧ Kp No w w' := by
  subst hr
  have hsm := h.small
  have hi := hI.ins
  have hT := hI.tr
  have hSf : Shf w g S (items nd T) := ⟨hb, .inr ⟨b, c, n, nd, T, hb', h, hI, rfl⟩⟩
  have hln : (items nd T).length = n := by rw [items, List.length_map, hI.len]
  have HSf := hid hSf
  have HLn := hid hln
  clear hSf hln
  go_enter Try.func27, Try.ntmps27
  go_wp2_with fail
  have hS1 := HSf.out.kp0 ((Kp.refl No w).alloc (.cells #[.int .i64 0, .int .i64 0] 24))
  have bz := Blk.new w 24 #[.int .i64 0, .int .i64 0]
  have k1 := (Kp.refl No w).alloc (.cells #[.int .i64 0, .int .i64 0] 24)
  have h1 := h.kp0 k1
  generalize w.alloc (.cells #[.int .i64 0, .int .i64 0] 24) = w1 at bz k1 h1 hS1 ⊢
  refine wp_scope_pass 0 (fun a' w' => ∃ (fs : List Fr) (t : BT) (m : Nat) (u7 u8 u9 u10 u11 u12 u13 u14 u15 u16 u17 u18 u19 u20 u21 u22 u23 u24 u25 u26 u27 u28 u29 u30 u31 u32 u33 u34 u35 u36 u37 u38 u39 u40 u41 u42 u43 u44 u45 u46 u47 u48 : Value), a' = { tmps := #[.pointer (some ⟨g, 0, none⟩), .int .i64 (m : Int), undef, undef, .pointer (some ⟨w.heap.size, 0, none⟩), .bool false, .int .i64 (t.root : Int), u7, u8, u9, u10, u11, u12, u13, u14, u15, u16, u17, u18, u19, u20, u21, u22, u23, u24, u25, u26, u27, u28, u29, u30, u31, u32, u33, u34, u35, u36, u37, u38, u39, u40, u41, u42, u43, u44, u45, u46, u47, u48], defers := [] } ∧ Kp No w1 w' ∧ T = plug fs t ∧ Sds fs ∧ (lc fs).length + m = k ∧ m < t.sz)
    (fun a' _ => mu nd (a'.tmps.getD 6 undef)) rfl ?_ ?_
  · rintro a' w' ⟨fs, t, m, u7, u8, u9, u10, u11, u12, u13, u14, u15, u16, u17, u18, u19, u20, u21, u22, u23, u24, u25, u26, u27, u28, u29, u30, u31, u32, u33, u34, u35, u36, u37, u38, u39, u40, u41, u42, u43, u44, u45, u46, u47, u48, rfl, hk, hp, hsd, hm, hmt⟩
    have s2 := h1.kp0 hk
    have b2 := bz.kp0 hk
    have hpl := plug_pls fs t
    rw [← hp] at hpl
    have iT : In n t.pls := fun q hq => hi q (by rw [hpl]; simp [hq])
    have hTt := (Tr.plug hsd (hp ▸ hT)).1
    have HM := hid hm
    have HP := hid hp
    have HTt := hid hTt
    clear hm hp hTt hpl
    cases t with
    | nil => simp [BT.sz, BT.pls] at hmt
    | node p l r =>
      obtain ⟨p1, p2⟩ := iT.p
      rw [BT.sz_node] at hmt
      have htn : (BT.node p l r).sz ≤ n := iT.len (by
        have := hI.nodup
        rw [HP.out, plug_pls, List.nodup_append, List.nodup_append] at this
        exact this.2.1.1)
      rw [BT.sz_node] at htn
      simp only [BT.root]
      rcases Nat.lt_trichotomy m l.sz with hlt | heq | hgt
      · have hne : ((m : Int) == (l.sz : Int)) = false := by rw [beq_eq_false_iff_ne]; omega
        have hng : decide ((l.sz : Int) < (m : Int)) = false := by simp; omega
        have hng2 : decide (l.sz < m) = false := by simp; omega
        have cd := s2.lo p1 p2
        rw [HTt.out.1] at cd
        go_wp2_with fail
        refine (node_any s2 p p1 p2).mono ?_
        rintro e w' ⟨rfl, rfl⟩
        go_wp2_with fail
        refine (ahead_any s2 HTt.out iT).mono ?_
        rintro e w' ⟨rfl, rfl⟩
        go_wp2_with fail
        go_step3
        refine ⟨rfl, ⟨⟨p, 0, r⟩ :: fs, l, m, _, _, _, _, _, _, _, _, _, _, _, _, _, _, _, _, _, _, _, _, _, _, _, _, _, _, _, _, _, _, _, _, _, _, _, _, _, _, _, _, _, _, rfl, hk, by rw [HP.out]; simp [plug, plug1], ⟨.inl rfl, hsd⟩, by simpa [lc] using HM.out, by omega⟩, ?_⟩
        show mu nd (.int .i64 (l.root : Int)) < mu nd (.int .i64 ((BT.node p l r).root : Int))
        rw [mu_eq (n := n) HTt.out.2.2.2.2.1 iT.l, mu_eq (n := n) HTt.out iT]
        simp only [BT.ht]
        omega
      · have HE := hid heq
        have hat := at_here (nd := nd) (k := k) HP.out (by rw [← HE.out]; exact HM.out)
        have HA := hid hat
        clear hat heq
        have heq2 : ((m : Int) == (l.sz : Int)) = true := by rw [beq_iff_eq, HE.out]
        have ck := s2.key p1 p2
        have ci := s2.id p1 p2
        have cz0 := b2.cell 0
        have cz1 := b2.cell 1
        have fz0 := b2.frozen 0
        have fz1 := b2.frozen 1
        simp at cz0 cz1
        go_wp2_with fail
        refine (node_any s2 p p1 p2).mono ?_
        rintro e w' ⟨rfl, rfl⟩
        go_wp2_with fail
        refine (ahead_any s2 HTt.out iT).mono ?_
        rintro e w' ⟨rfl, rfl⟩
        go_wp2_with fail
        simp only [Exit.jump]
        exact bodyPost_ret (v := .tuple #[.agg #[.int .i64 (nd p).it.key, .int .i64 (nd p).it.id], .bool true]) (by simp [results, Try.results27, go_sem, cz0, cz1]) rfl ⟨by rw [HA.out], ((k1.trans hk).setCell (p := ⟨w.heap.size, 0, none⟩) (.inr (Nat.le_refl _)) _).setCell (p := ⟨w.heap.size, 1, none⟩) (.inr (Nat.le_refl _)) _⟩
      · have hne : ((m : Int) == (l.sz : Int)) = false := by rw [beq_eq_false_iff_ne]; omega
        have hng : decide ((l.sz : Int) < (m : Int)) = true := by simp; omega
        have hng2 : decide (l.sz < m) = true := by simp; omega
        have cd := s2.hi p1 p2
        rw [HTt.out.2.1] at cd
        go_wp2_with fail
        refine (node_any s2 p p1 p2).mono ?_
        rintro e w' ⟨rfl, rfl⟩
        go_wp2_with fail
        refine (ahead_any s2 HTt.out iT).mono ?_
        rintro e w' ⟨rfl, rfl⟩
        go_wp2_with fail
        rw [show (m : Int) - ((l.sz : Int) + 1) = ((m - (l.sz + 1) : Nat) : Int) by omega]
        go_step3
        refine ⟨rfl, ⟨⟨p, 1, l⟩ :: fs, r, (m - (l.sz + 1)), _, _, _, _, _, _, _, _, _, _, _, _, _, _, _, _, _, _, _, _, _, _, _, _, _, _, _, _, _, _, _, _, _, _, _, _, _, _, _, _, _, _, rfl, hk, by rw [HP.out]; simp [plug, plug1], ⟨.inr rfl, hsd⟩, by have := HM.out; simp only [lc, List.length_append, List.length_cons, List.length_nil, if_neg (show ¬ (1 : Nat) = 0 by omega)]; rw [← BT.sz]; omega, by omega⟩, ?_⟩
        show mu nd (.int .i64 (r.root : Int)) < mu nd (.int .i64 ((BT.node p l r).root : Int))
        rw [mu_eq (n := n) HTt.out.2.2.2.2.2 iT.r, mu_eq (n := n) HTt.out iT]
        simp only [BT.ht]
        omega
  · intro pass
    have c1 := h1.head.2
    have hkn2 : ¬ (n : Int) ≤ (k : Int) := by omega
    go_wp2_with fail
    refine (Len_any hS1).mono ?_
    rintro e w' ⟨rfl, rfl⟩
    rw [HLn.out]
    go_wp2_with fail
    go_step3
    have go_on := ‹∀ (a : Act) (w : World), Code.wp _ _ _ a w → _›
    exact go_on _ _ (pass _ _ ⟨[], T, k, _, _, _, _, _, _, _, _, _, _, _, _, _, _, _, _, _, _, _, _, _, _, _, _, _, _, _, _, _, _, _, _, _, _, _, _, _, _, _, _, _, _, rfl, Kp.refl No w1, rfl, trivial, by simp [lc], by rw [BT.sz, hI.len]; exact hkn⟩)

theorem at_in {l : List It} (h : Shf w g S l) (k : Nat) (hk : k < l.length) :
    Calls Try.prog 27 #[.pointer (some ⟨g, 0, none⟩), .int .i64 (k : Int)] w fun e w' => e = .returned (.tuple #[.agg #[.int .i64 (l.getD k it0).key, .int .i64 (l.getD k it0).id], .bool true]) ∧ Kp No w w' := by
  rcases h.2 with ⟨rfl, h2⟩ | ⟨b, c, n, nd, T, hb, h2, h3, rfl⟩
  · simp at hk
  · exact at_core h2 rfl h3 h.1 hb k (by rw [items, List.length_map, h3.len] at hk; exact hk)
end
end Go.Proofs.Ytpbnmfoecmhnnaa
