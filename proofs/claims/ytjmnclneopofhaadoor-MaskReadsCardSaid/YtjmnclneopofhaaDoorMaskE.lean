/-
  Contracts: run, Text.
-/
import Derived.Test.YtjmnclneopofhaaDoorMaskTxt
import Derived.Test.YtjmnclneopofhaaDoorMaskL
import Derived.Test.YtjmnclneopofhaaDoorMaskC
import Derived.Test.YtjmnclneopofhaaDoorInRound
import Derived.Deep.RegionLaw
import Derived.Laws.Strings3
import Derived.Laws.Concat
namespace Go.Proofs.YtjmnclneopofhaaDoor
open Go.RowKit Go.Shelf

attribute [local go_sem] Oper.semAt_some

theorem str_app (a b : List UInt8) : str a ++ str b = str (a ++ b) := ByteArray.mk_append_mk a b
theorem dec_size (n : Nat) (h : n < 64) : (str (Lib.decDigits n)).size ≤ 2 := (dec_no n h).2.2

theorem run_any (s f : Nat) (w : World) (hs : U64 s) (hf : f < 64) :
    Calls Tryd.prog 36 #[.int .u64 (s : Int), .int .i64 (f : Int)] w fun e w' => e = .returned (.string (str (rt f (lst s f)))) ∧ w = w' := by
  have hl := lst_lt hs hf
  have hge := lst_le hs f
  go_enter Tryd.func36, Tryd.ntmps36
  go_wp2_with fail
  go_loop [5] (fun i => ∃ k : Nat, i = .int .i64 (k : Int) ∧ f ≤ k ∧ k ≤ lst s f ∧ Hid (lst s k = lst s f)) (fun i => 64 - (intOf i).toNat)
  case atStart => exact ⟨f, rfl, Nat.le_refl _, hge, hid rfl⟩
  case round =>
    obtain ⟨k, rfl, hk1, hk2, HL⟩ := hrel
    have HI := hid (isIn_big hs (k + 1))
    have hw : wrap64 ((k : Int) + 1) = ((k + 1 : Nat) : Int) := by unfold wrap64; omega
    go_wp2_with fail
    refine (has_any s ((k + 1 : Nat) : Int) _ hs).mono ?_
    rintro e w' ⟨rfl, rfl⟩
    cases hb : s.testBit (k + 1) with
    | true =>
      have hlt : k + 1 < 64 := by
        rcases Nat.lt_or_ge (k + 1) 64 with h1 | h1
        · exact h1
        · rw [hs.bit h1] at hb; cases hb
      have HO := hid (lst_on hs hb)
      have HG := hid (lst_le hs (k + 1))
      rw [HI.out, hb]
      clear hb
      go_wp2_with fail
      go_round
      case rel => exact ⟨k + 1, by go_num, by omega, by rw [← HL.out, HO.out]; exact HG.out, hid (by rw [← HL.out, HO.out])⟩
      case measure => simp [intOf]; omega
    | false =>
      have he : k = lst s f := by rw [← HL.out, lst_end s k hb]
      rw [HI.out, hb]
      clear hb HI hw HL hk2
      by_cases hfk : f = k
      · have HR := hid (show rt f (lst s f) = Lib.decDigits f by unfold rt; rw [← he, if_pos hfk])
        subst hfk
        clear he
        go_wp2_with fail
        refine (itoa_any f (by omega) _).mono ?_
        rintro e w' ⟨rfl, rfl⟩
        go_wp2_with fail
        go_ret
        rw [HR.out]
        exact ⟨rfl, rfl⟩
      · have HR := hid (show rt f (lst s f) = Lib.decDigits f ++ 45 :: Lib.decDigits k by unfold rt; rw [← he, if_neg hfk])
        have hk3 : k < 64 := by omega
        have hne : ((k : Int) == (f : Int)) = false := by rw [beq_eq_false_iff_ne]; omega
        have hz1 := dec_size f (by omega)
        have hz2 := dec_size k hk3
        clear he
        go_wp2_with fail
        refine (itoa_any f (by omega) _).mono ?_
        rintro e w' ⟨rfl, rfl⟩
        go_wp2_with fail
        refine (itoa_any k (by omega) _).mono ?_
        rintro e w' ⟨rfl, rfl⟩
        go_wp2_with fail
        go_ret
        rw [HR.out]
        refine ⟨?_, rfl⟩
        show Ending.returned (.string (str (Lib.decDigits f) ++ str [45] ++ str (Lib.decDigits k))) = _
        rw [str_app, str_app, List.append_assoc, List.singleton_append]

theorem infoStr : (Tryd.prog.info? 9).map (fun i => (i.zero, i.size, i.bytes)) = some (some (.string ⟨#[]⟩), 1, 16) := by kernel_rfl

/-- The runs' texts, as strings. -/
def strs (s : Nat) (l : List (Fin 64)) : List Value := l.map fun i => .string (str (rtx s i))
theorem strs_snoc (s : Nat) (l : List (Fin 64)) (x : Fin 64) : strs s (l ++ [x]) = strs s l ++ [.string (str (rt x.val (lst s x.val)))] := by simp [strs, rtx]

theorem strs_txl (s : Nat) : strs s (fst s) = (txl s).map fun x => .string (str x) := by
  unfold strs txl
  rw [List.map_map]
  rfl
/-- What the runs' slice holds, at the end. -/
theorem strs_at {s : Nat} (hs : U64 s) (hz : ¬ s = 0) {W : World} {base : Nat} {e : TypeId} {v : Value} (h : W.ownsRow base e 1 v (fst s).length (strs s (fst s))) :
    ∃ g cap, v = .slice (some ⟨g, 0, none⟩) (txl s).length cap ∧ g < W.heap.size ∧ (txl s).length ≤ cap ∧ ∀ (j : Nat) x, (txl s)[j]? = some x → W.cell? ⟨g, 0 + j, none⟩ = some (.string (str x)) := by
  have hl : (txl s).length = (fst s).length := List.length_map _
  rcases h.2 with ⟨rfl, h0⟩ | ⟨g, cap, cur, rfl, hb, hg, hle, hm, hsz, ht⟩
  · exact absurd (List.eq_nil_of_length_eq_zero h0) (fst_ne hs hz)
  · refine ⟨g, cap, by rw [hl], (Array.getElem?_eq_some_iff.1 hg).1, by omega, fun j x hx => ?_⟩
    have hj : j < (txl s).length := (List.getElem?_eq_some_iff.1 hx).1
    have h1 := h.cellAt j (by omega)
    have h2 : (strs s (fst s))[j]? = some (.string (str x)) := by rw [strs_txl, List.getElem?_map, hx]; rfl
    rw [Nat.zero_add, h1]
    exact h2

set_option maxRecDepth 100000 in
set_option maxHeartbeats 2000000 in
theorem text_any (s : Nat) (w : World) (hs : U64 s) :
    Calls Tryd.prog 29 #[.int .u64 (s : Int)] w fun e w' => e = .returned (.string (str (txt s))) ∧ Kp No w w' := by
  by_cases hz : s = 0
  · subst hz
    have HT := hid (show txt 0 = [45] from rfl)
    go_enter Tryd.func29, Tryd.ntmps29
    go_wp2
    go_ret
    rw [HT.out]
    exact ⟨rfl, (Kp.refl No w).alloc _⟩
  have HT := hid (show txt s = Lib.join (txl s) [44] by unfold txt; rw [if_neg hz])
  obtain ⟨i0, hi, hz0, hz1, hz2⟩ := info_parts infoStr
  refine (callsIn_wide (n := 5)).1 ?_
  refine callsIn_of_wp_marks Tryd.func29 rfl trivial ?_ rfl
  simp only [Tryd.ntmps29, List.size_toArray, List.length_cons, List.length_nil, Nat.reduceAdd, Nat.reduceSub, Array.replicate_succ, Array.replicate_zero, List.push_toArray, List.append_toArray, List.nil_append, List.cons_append]
  have hsn : ((s : Int) == 0) = false := by rw [beq_eq_false_iff_ne]; omega
  gi_wp2_with (refine ⟨trivial, ?_⟩; gi_at_call 33; refine (callsIn_wide.2 (those_any _ rfl _)).mono ?_; rintro e w' ⟨rfl, rfl⟩)
  have b0 := Boxed.new w 24 (.int .u64 (s : Int))
  have b1 := Boxed.new (w.alloc (.cells #[.int .u64 (s : Int)] 24)) 58 (.slice none 0 0)
  have b2 := Boxed.new ((w.alloc (.cells #[.int .u64 (s : Int)] 24)).alloc (.cells #[.slice none 0 0] 58)) 27 (.func (.func 35) #[.int .u64 (s : Int)] #[])
  simp only [World.size_alloc] at b1 b2
  have hB0 : Below w.heap.size w (((w.alloc (.cells #[.int .u64 (s : Int)] 24)).alloc (.cells #[.slice none 0 0] 58)).alloc (.cells #[(.func (.func 35) #[.int .u64 (s : Int)] #[])] 27)) := (((Below.refl _ w).alloc (Nat.le_refl _) _).alloc (by simp) _).alloc (by simp; omega) _
  refine wpIn_rangeFunc_ownG rfl (by omega) (gf := 39) (lb := #[.pointer (some ⟨w.heap.size + 1 + 1, 0, none⟩)]) rfl trivial (enters_of Tryd.func39 (by kernel_rfl) rfl)
    (begins_stops _ (by omega) s hs (w.heap.size + 1 + 1) _ (by simp) b2.cell) KpB.trans (KpB.put (by simp)) (Below.refl _ _) (fun _ => rfl)
    (fun pre W => ((∃ v, Boxed W (w.heap.size + 1) 58 v ∧ W.ownsRow w.heap.size 9 1 v pre.length (strs s pre) ∧ (v = .slice none 0 0 ↔ pre = [])) ∧ (Boxed W (w.heap.size + 1 + 1) 27 (.func (.func 35) #[.int .u64 (s : Int)] #[]) ∧ Boxed W w.heap.size 24 (.int .u64 (s : Int)))) ∧ Below w.heap.size w W)
    (fun _ _ _ => False)
    (OwnFrom.and (OwnFrom.and (Own.from (holdsRow_own w.heap.size (w.heap.size + 1) 58 9 1 (fun (pre : List (Fin 64)) => pre.length) (fun pre => strs s pre) (fun pre v => v = .slice none 0 0 ↔ pre = [])) _) (OwnFrom.and (Own.from (boxed_own (w.heap.size + 1 + 1) 27 fun (_ : List (Fin 64)) => (.func (.func 35) #[.int .u64 (s : Int)] #[])) _) (Own.from (boxed_own w.heap.size 24 fun (_ : List (Fin 64)) => .int .u64 (s : Int)) _))) (ownFrom_below (Nat.le_refl _) (by simp; omega)))
    (fun _ _ _ _ _ hs _ _ => hs)
    ⟨⟨⟨_, b1.alloc _, World.ownsRow_nil _ _ _ _, by simp⟩, b2, (b0.alloc _).alloc _⟩, hB0⟩
    (fun x => { tmps := #[.int .u64 (s : Int), .pointer (some ⟨w.heap.size, 0, none⟩), .string ⟨#[]⟩, .pointer (some ⟨w.heap.size + 1, 0, none⟩), .int .i64 (x.val : Int), .int .u64 (s : Int), .bool false, .int .u64 (s : Int), (.func (.func 35) #[.int .u64 (s : Int)] #[]), .func (.func 39) #[] #[.pointer (some ⟨w.heap.size + 1 + 1, 0, none⟩)], .int .i64 (x.val : Int), undef, undef, undef, undef, undef, undef, undef, undef], defers := [] }) ?assign ?body ?done ?stop
  case assign =>
    intro l x W K hK
    gi_wp2
    exact hK
  case body =>
    rintro l pre x W ⟨⟨⟨v, hv, hrow, hnil⟩, hbn, hbs⟩, hB⟩ hlt
    have hc := hv.cell
    have hcs := hbs.cell
    have hd : 1 ≤ 5 - 1 - 1 := by omega
    have hmx : Tryd.prog.follows .mixedOrders = true := by kernel_rfl
    gi_wp2
    have hcA : ∀ o, (W.alloc o).cell? ⟨w.heap.size + 1, 0, none⟩ = some v := fun o => (hv.alloc o).cell
    refine region_in hmx (by kernel_rfl) (fun ⟨_, _, h⟩ => h.elim) ?_
    refine wpAny_take (i := 2) (v := .int .i64 (x.val : Int)) rfl (by kernel_rfl) (by kernel_rfl) (by kernel_rfl) (fun _ _ _ h => h) (Or.inl ⟨by rfl, fun w => by go_simp⟩) ?_
    refine wpAny_ready (rs := [0, 1]) (by kernel_rfl) (by simp) (AllReady.cons rfl (fun K hK => ?_) (AllReady.cons rfl (fun K hK => ?_) AllReady.nil))
    · go_simp
      refine hK _ _ ?_
      clear hK K
      refine wpAny_ready (rs := [1]) (by kernel_rfl) (by simp) (AllReady.cons rfl (fun K hK => ?_) AllReady.nil)
      go_simp
      refine hK _ _ ?_
      clear hK K
      refine wpAny_ready (rs := [3]) (by kernel_rfl) (by simp) (AllReady.cons rfl (fun K hK => ?_) AllReady.nil)
      go_simp
      refine (run_any s x.val _ hs x.isLt).mono ?_
      rintro e w' ⟨rfl, rfl⟩
      refine hK _ _ ?_
      clear hK K
      refine wpAny_ready (rs := [4]) (by kernel_rfl) (by simp) (AllReady.cons rfl (fun K hK => ?_) AllReady.nil)
      go_simp
      refine hK _ _ ?_
      clear hK K
      refine wpAny_ready (rs := [5]) (by kernel_rfl) (by simp) (AllReady.cons rfl (fun K hK => ?_) AllReady.nil)
      refine step_append _ rfl (.tmp 11) (.tmp 15) 58 rfl w.heap.size 9 i0 (.string ⟨#[]⟩) 1 16 Tryd.underlying58 hi hz0 hz1 hz2 rfl (by decide) v _ _ rfl (by exact hrow.alloc _) ⟨W.heap.size, 0, none⟩ 1 1 [.string (str (rt x.val (lst s x.val)))] rfl rfl (by exact cell_one_new _ _ _) (by simp [Value.oneCell']) (by unfold maxLen; omega) (by omega) (by have := hB.size; simp; omega) ?_
      intro v' w1 hown' hgrow0
      have hgrow : (W.alloc (.cells #[.string (str (rt x.val (lst s x.val)))] 9)).grownBy w1 v.ownBlock := ⟨hgrow0.os, hgrow0.tape, hgrow0.output, hgrow0.size, hgrow0.block⟩
      obtain ⟨g', cap', rfl⟩ := ownsRow_succ hown'
      obtain ⟨hv1, hv2, hr2, hk2, hb2⟩ := hv.appended (by decide) hrow hB.size (by omega) hown' hgrow
      have hbn1 := ((hbn.alloc _).kept hgrow (hbn.not_row (by decide) hrow)).other (B' := w.heap.size + 1) (by omega) (.slice (some ⟨g', 0, none⟩) (pre.length + 1) cap')
      have hbs1 := ((hbs.alloc _).kept hgrow (hbs.not_row (by decide) hrow)).other (B' := w.heap.size + 1) (by omega) (.slice (some ⟨g', 0, none⟩) (pre.length + 1) cap')
      have hc1 := hv1.cell
      have hf1 := hv1.frozen
      refine hK _ _ ?_
      clear hK K
      refine wpAny_ready (rs := [6]) (by kernel_rfl) (by simp) (AllReady.cons rfl (fun K hK => ?_) AllReady.nil)
      go_simp
      refine hK _ _ ?_
      refine wpAny_done (by kernel_rfl) ?_ _
      exact ⟨hk2.from _, hbn1.trans (Eq.symm hbn), ⟨⟨_, hv2, by rw [strs_snoc]; simpa using hr2, by simp⟩, hbn1, hbs1⟩, hB.trans hb2⟩
    · go_simp
      refine hK _ _ ?_
      clear hK K
      refine wpAny_ready (rs := [0, 3]) (by kernel_rfl) (by simp) (AllReady.cons rfl (fun K hK => ?_) (AllReady.cons rfl (fun K hK => ?_) AllReady.nil))
      · go_simp
        refine hK _ _ ?_
        clear hK K
        refine wpAny_ready (rs := [3]) (by kernel_rfl) (by simp) (AllReady.cons rfl (fun K hK => ?_) AllReady.nil)
        go_simp
        refine (run_any s x.val _ hs x.isLt).mono ?_
        rintro e w' ⟨rfl, rfl⟩
        refine hK _ _ ?_
        clear hK K
        refine wpAny_ready (rs := [4]) (by kernel_rfl) (by simp) (AllReady.cons rfl (fun K hK => ?_) AllReady.nil)
        go_simp
        refine hK _ _ ?_
        clear hK K
        refine wpAny_ready (rs := [5]) (by kernel_rfl) (by simp) (AllReady.cons rfl (fun K hK => ?_) AllReady.nil)
        refine step_append _ rfl (.tmp 11) (.tmp 15) 58 rfl w.heap.size 9 i0 (.string ⟨#[]⟩) 1 16 Tryd.underlying58 hi hz0 hz1 hz2 rfl (by decide) v _ _ rfl (by exact hrow.alloc _) ⟨W.heap.size, 0, none⟩ 1 1 [.string (str (rt x.val (lst s x.val)))] rfl rfl (by exact cell_one_new _ _ _) (by simp [Value.oneCell']) (by unfold maxLen; omega) (by omega) (by have := hB.size; simp; omega) ?_
        intro v' w1 hown' hgrow0
        have hgrow : (W.alloc (.cells #[.string (str (rt x.val (lst s x.val)))] 9)).grownBy w1 v.ownBlock := ⟨hgrow0.os, hgrow0.tape, hgrow0.output, hgrow0.size, hgrow0.block⟩
        obtain ⟨g', cap', rfl⟩ := ownsRow_succ hown'
        obtain ⟨hv1, hv2, hr2, hk2, hb2⟩ := hv.appended (by decide) hrow hB.size (by omega) hown' hgrow
        have hbn1 := ((hbn.alloc _).kept hgrow (hbn.not_row (by decide) hrow)).other (B' := w.heap.size + 1) (by omega) (.slice (some ⟨g', 0, none⟩) (pre.length + 1) cap')
        have hbs1 := ((hbs.alloc _).kept hgrow (hbs.not_row (by decide) hrow)).other (B' := w.heap.size + 1) (by omega) (.slice (some ⟨g', 0, none⟩) (pre.length + 1) cap')
        have hc1 := hv1.cell
        have hf1 := hv1.frozen
        refine hK _ _ ?_
        clear hK K
        refine wpAny_ready (rs := [6]) (by kernel_rfl) (by simp) (AllReady.cons rfl (fun K hK => ?_) AllReady.nil)
        go_simp
        refine hK _ _ ?_
        refine wpAny_done (by kernel_rfl) ?_ _
        exact ⟨hk2.from _, hbn1.trans (Eq.symm hbn), ⟨⟨_, hv2, by rw [strs_snoc]; simpa using hr2, by simp⟩, hbn1, hbs1⟩, hB.trans hb2⟩
      · go_simp
        refine (run_any s x.val _ hs x.isLt).mono ?_
        rintro e w' ⟨rfl, rfl⟩
        refine hK _ _ ?_
        clear hK K
        refine wpAny_ready (rs := [0, 4]) (by kernel_rfl) (by simp) (AllReady.cons rfl (fun K hK => ?_) (AllReady.cons rfl (fun K hK => ?_) AllReady.nil))
        · go_simp
          refine hK _ _ ?_
          clear hK K
          refine wpAny_ready (rs := [4]) (by kernel_rfl) (by simp) (AllReady.cons rfl (fun K hK => ?_) AllReady.nil)
          go_simp
          refine hK _ _ ?_
          clear hK K
          refine wpAny_ready (rs := [5]) (by kernel_rfl) (by simp) (AllReady.cons rfl (fun K hK => ?_) AllReady.nil)
          refine step_append _ rfl (.tmp 11) (.tmp 15) 58 rfl w.heap.size 9 i0 (.string ⟨#[]⟩) 1 16 Tryd.underlying58 hi hz0 hz1 hz2 rfl (by decide) v _ _ rfl (by exact hrow.alloc _) ⟨W.heap.size, 0, none⟩ 1 1 [.string (str (rt x.val (lst s x.val)))] rfl rfl (by exact cell_one_new _ _ _) (by simp [Value.oneCell']) (by unfold maxLen; omega) (by omega) (by have := hB.size; simp; omega) ?_
          intro v' w1 hown' hgrow0
          have hgrow : (W.alloc (.cells #[.string (str (rt x.val (lst s x.val)))] 9)).grownBy w1 v.ownBlock := ⟨hgrow0.os, hgrow0.tape, hgrow0.output, hgrow0.size, hgrow0.block⟩
          obtain ⟨g', cap', rfl⟩ := ownsRow_succ hown'
          obtain ⟨hv1, hv2, hr2, hk2, hb2⟩ := hv.appended (by decide) hrow hB.size (by omega) hown' hgrow
          have hbn1 := ((hbn.alloc _).kept hgrow (hbn.not_row (by decide) hrow)).other (B' := w.heap.size + 1) (by omega) (.slice (some ⟨g', 0, none⟩) (pre.length + 1) cap')
          have hbs1 := ((hbs.alloc _).kept hgrow (hbs.not_row (by decide) hrow)).other (B' := w.heap.size + 1) (by omega) (.slice (some ⟨g', 0, none⟩) (pre.length + 1) cap')
          have hc1 := hv1.cell
          have hf1 := hv1.frozen
          refine hK _ _ ?_
          clear hK K
          refine wpAny_ready (rs := [6]) (by kernel_rfl) (by simp) (AllReady.cons rfl (fun K hK => ?_) AllReady.nil)
          go_simp
          refine hK _ _ ?_
          refine wpAny_done (by kernel_rfl) ?_ _
          exact ⟨hk2.from _, hbn1.trans (Eq.symm hbn), ⟨⟨_, hv2, by rw [strs_snoc]; simpa using hr2, by simp⟩, hbn1, hbs1⟩, hB.trans hb2⟩
        · go_simp
          refine hK _ _ ?_
          clear hK K
          refine wpAny_ready (rs := [0]) (by kernel_rfl) (by simp) (AllReady.cons rfl (fun K hK => ?_) AllReady.nil)
          go_simp
          refine hK _ _ ?_
          clear hK K
          refine wpAny_ready (rs := [5]) (by kernel_rfl) (by simp) (AllReady.cons rfl (fun K hK => ?_) AllReady.nil)
          refine step_append _ rfl (.tmp 11) (.tmp 15) 58 rfl w.heap.size 9 i0 (.string ⟨#[]⟩) 1 16 Tryd.underlying58 hi hz0 hz1 hz2 rfl (by decide) v _ _ rfl (by exact hrow.alloc _) ⟨W.heap.size, 0, none⟩ 1 1 [.string (str (rt x.val (lst s x.val)))] rfl rfl (by exact cell_one_new _ _ _) (by simp [Value.oneCell']) (by unfold maxLen; omega) (by omega) (by have := hB.size; simp; omega) ?_
          intro v' w1 hown' hgrow0
          have hgrow : (W.alloc (.cells #[.string (str (rt x.val (lst s x.val)))] 9)).grownBy w1 v.ownBlock := ⟨hgrow0.os, hgrow0.tape, hgrow0.output, hgrow0.size, hgrow0.block⟩
          obtain ⟨g', cap', rfl⟩ := ownsRow_succ hown'
          obtain ⟨hv1, hv2, hr2, hk2, hb2⟩ := hv.appended (by decide) hrow hB.size (by omega) hown' hgrow
          have hbn1 := ((hbn.alloc _).kept hgrow (hbn.not_row (by decide) hrow)).other (B' := w.heap.size + 1) (by omega) (.slice (some ⟨g', 0, none⟩) (pre.length + 1) cap')
          have hbs1 := ((hbs.alloc _).kept hgrow (hbs.not_row (by decide) hrow)).other (B' := w.heap.size + 1) (by omega) (.slice (some ⟨g', 0, none⟩) (pre.length + 1) cap')
          have hc1 := hv1.cell
          have hf1 := hv1.frozen
          refine hK _ _ ?_
          clear hK K
          refine wpAny_ready (rs := [6]) (by kernel_rfl) (by simp) (AllReady.cons rfl (fun K hK => ?_) AllReady.nil)
          go_simp
          refine hK _ _ ?_
          refine wpAny_done (by kernel_rfl) ?_ _
          exact ⟨hk2.from _, hbn1.trans (Eq.symm hbn), ⟨⟨_, hv2, by rw [strs_snoc]; simpa using hr2, by simp⟩, hbn1, hbs1⟩, hB.trans hb2⟩
  case done =>
    rintro D ys W hD rfl ⟨⟨⟨v, hv, hrow, hnil⟩, _⟩, hB⟩ hK
    obtain ⟨g, cap, rfl, hgl, hcap, hcells⟩ := strs_at hs hz hrow
    have hc := hv.cell
    have hDl := (Array.getElem?_eq_some_iff.1 hK).1
    gi_wp2_with (refine ⟨trivial, ?_⟩; gi_at_call 37; refine (callsIn_wide.2 (join_any g 0 cap (txl s) 44 _ hcells hgl (Nat.le_trans (txl_len s) (by omega)) hcap (Nat.le_trans (txl_join hs) (by omega)))).mono ?_; rintro e w2 ⟨rfl, k2⟩)
    have hK2 := (k2.block D hDl id).trans hK
    refine ⟨by simp, .inl ⟨_, _, rfl, run_takeDeferred hK2, ?_⟩⟩
    have hB2 : Below w.heap.size w w2 := hB.trans (⟨k2.os, k2.tape, k2.output, k2.size, fun k hk => k2.block k (Nat.lt_of_lt_of_le hk hB.size) id⟩)
    exact ⟨_, results_tmp rfl _ _ _, by rw [HT.out]; rfl, kpOf (hB2.trans (belowK_b (w := w) (Nat.le_refl _) w2 D _ _ (by simp at hD; omega) hK2 rfl rfl))⟩
  case stop =>
    rintro D c pre W _ _ h _
    exact h.elim
end Go.Proofs.YtjmnclneopofhaaDoor
