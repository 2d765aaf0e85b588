/-
  Contract of the document's Kids.
-/
import Derived.Test.YtggmdgdgljlddaaNRefB
namespace Go.Proofs.Ytggmdgdgljlddaa
open Go.RowKit

section
variable {T : Tre} {D : Int → Nat} {L : List (Int × Int)} {x : Int}
theorem LT.kid (h : LT L T) (W : WT T D) (x y : Int) : (y, x) ∈ L ↔ y ∈ kidsT T x := by
  rw [h.mem]
  cases e : T x with
  | none =>
    rw [kids_none e]
    constructor
    · rintro ⟨h0, ks, hk⟩
      obtain ⟨q, hq⟩ := W.up y _ hk h0
      rw [e] at hq
      cases hq
    · intro hm
      cases hm
  | some q =>
    rw [kids_some e]
    constructor
    · rintro ⟨_, hk⟩
      exact (W.kid x q e y).2 hk
    · intro hm
      obtain ⟨ks, hk, h0, _⟩ := W.kid_up e hm
      exact ⟨h0, ks, hk⟩
theorem kid_pos (W : WT T D) {x y : Int} (h : y ∈ kidsT T x) : 1 ≤ y ∧ y ≤ 1048576 := by
  cases e : T x with
  | none => rw [kids_none e] at h; cases h
  | some q =>
    rw [kids_some e] at h
    obtain ⟨ks, hk, h0, _⟩ := W.kid_up e h
    exact W.rg y _ hk h0
theorem kid_has {x y : Int} (h : y ∈ kidsT T x) : (T x).isSome = true := by
  cases e : T x with
  | none => rw [kids_none e] at h; cases h
  | some q => rfl
theorem kid_srt (W : WT T D) (x : Int) : (kidsT T x).Pairwise (· < ·) := by
  cases e : T x with
  | none => rw [kids_none e]; exact List.Pairwise.nil
  | some q => rw [kids_some e]; exact W.srt x q e
/-- The least one so far above the last one. -/
def Nx (x last : Int) (l : List (Int × Int)) (next : Int) : Prop :=
  (next = 0 ∧ ∀ y, (y, x) ∈ l → ¬ last < y) ∨ (0 < next ∧ (next, x) ∈ l ∧ last < next ∧ ∀ y, (y, x) ∈ l → last < y → next ≤ y)
theorem Nx.skip {last next : Int} {l : List (Int × Int)} {z : Int × Int} (h : Nx x last l next) (hz : ∀ y, z = (y, x) → last < y → next ≠ 0 ∧ next ≤ y) : Nx x last (l ++ [z]) next := by
  rcases h with ⟨h1, h2⟩ | ⟨h1, h2, h3, h4⟩
  · refine .inl ⟨h1, fun y hy hl => ?_⟩
    rcases List.mem_append.1 hy with hy | hy
    · exact h2 y hy hl
    · exact (hz y (List.mem_singleton.1 hy).symm hl).1 h1
  · refine .inr ⟨h1, List.mem_append_left _ h2, h3, fun y hy hl => ?_⟩
    rcases List.mem_append.1 hy with hy | hy
    · exact h4 y hy hl
    · exact (hz y (List.mem_singleton.1 hy).symm hl).2
theorem Nx.take {last next y : Int} {l : List (Int × Int)} (h : Nx x last l next) (h0 : 0 < y) (hl : last < y) (hn : next = 0 ∨ y < next) : Nx x last (l ++ [(y, x)]) y := by
  refine .inr ⟨h0, List.mem_append_right _ List.mem_cons_self, hl, fun z hz hlz => ?_⟩
  rcases List.mem_append.1 hz with hz | hz
  · rcases h with ⟨h1, h2⟩ | ⟨h1, h2, h3, h4⟩
    · exact absurd hlz (h2 z hz)
    · have := h4 z hz hlz
      rcases hn with hn | hn <;> omega
  · have := List.mem_singleton.1 hz
    cases this
    exact Int.le_refl _
/-- Where one is, of the kids. -/
def At0 (ks : List Int) (i : Nat) (last : Int) : Prop := i ≤ ks.length ∧ last = if i = 0 then 0 else ks.getD (i - 1) 0
theorem srt_at {ks : List Int} (h : ks.Pairwise (· < ·)) {i j : Nat} (hij : i < j) (hj : j < ks.length) : ks.getD i 0 < ks.getD j 0 := by
  have hi : i < ks.length := by omega
  have := List.pairwise_iff_getElem.1 h i j hi hj hij
  simpa [List.getD, hi, hj] using this
theorem next_end (hl : LT L T) (W : WT T D) {i : Nat} {last : Int} (ha : At0 (kidsT T x) i last) (h : Nx x last L 0) : i = (kidsT T x).length := by
  rcases h with ⟨_, h2⟩ | ⟨h1, _⟩
  · obtain ⟨a1, a2⟩ := ha
    by_cases e : i = (kidsT T x).length
    · exact e
    · have hi : i < (kidsT T x).length := by omega
      have hm : (kidsT T x).getD i 0 ∈ kidsT T x := by simp [List.getD, hi]
      refine absurd ?_ (h2 _ ((hl.kid W x _).2 hm))
      rw [a2]
      split
      · have := (kid_pos W hm).1
        omega
      · exact srt_at (kid_srt W x) (by omega) hi
  · omega
theorem next_is (hl : LT L T) (W : WT T D) {i : Nat} {last next : Int} (ha : At0 (kidsT T x) i last) (h : Nx x last L next) (hn : next ≠ 0) : i < (kidsT T x).length ∧ next = (kidsT T x).getD i 0 := by
  rcases h with ⟨h1, _⟩ | ⟨h1, h2, h3, h4⟩
  · exact absurd h1 hn
  · obtain ⟨a1, a2⟩ := ha
    have hm := (hl.kid W x next).1 h2
    obtain ⟨j, hj, he⟩ := List.mem_iff_getElem.1 hm
    have he2 : (kidsT T x).getD j 0 = next := by simp [List.getD, hj, he]
    have hij : i ≤ j := by
      rcases Nat.lt_or_ge j i with hlt | hge
      · rw [if_neg (by omega)] at a2
        rcases Nat.eq_or_lt_of_le (show j ≤ i - 1 by omega) with e | e
        · rw [← e, he2] at a2
          omega
        · have := srt_at (kid_srt W x) e (by omega)
          omega
      · exact hge
    have hi : i < (kidsT T x).length := by omega
    refine ⟨hi, ?_⟩
    rcases Nat.eq_or_lt_of_le hij with e | e
    · rw [e, he2]
    · have h5 := srt_at (kid_srt W x) e hj
      have hmi : (kidsT T x).getD i 0 ∈ kidsT T x := by simp [List.getD, hi]
      have h6 := h4 _ ((hl.kid W x _).2 hmi) (by
        rw [a2]
        split
        · have := (kid_pos W hmi).1
          omega
        · exact srt_at (kid_srt W x) (by omega) hi)
      omega
end
section
variable {T : Tre} {D : Int → Nat} {w w' : World} {S P : Nat → Prop} {r : Nat} {v : Value} {L : List (Int × Int)} {x : Int}
set_option maxHeartbeats 2000000 in
set_option maxRecDepth 100000 in
theorem rkids_any (h : RT w P r v L) (hl : LT L T) (W : WT T D) (x : Int) : Calls Try.prog 20 #[.pointer (some ⟨r, 0, none⟩), .int .i64 x] w fun e w' => ∃ u, e = .returned u ∧ Ow w' w.heap.size 3 1 zf u (kidsT T x) ∧ Kp No w w' := by
  have HRT := hid h
  obtain ⟨A, c, rfl, hc, hm, _⟩ := h.rw
  unfold maxLen at hm
  obtain ⟨n, hn⟩ : ∃ n, L.length = n := ⟨_, rfl⟩
  have HN := hid hn
  have HW := hid W
  have HLT := hid hl
  have hkl := kids_len W x
  rw [hn] at hc HRT
  have HCL := hid (fun (w' : World) (kk : Kp No w w') => show w'.cell? ⟨r, 0, none⟩ = some (.slice A n c) from by have := (HRT.out.kp0 kk).hd.cell 0; simpa using this)
  clear h hn hl W
  go_enter Try.func20, Try.ntmps20
  go_wp2_with fail
  go_loopw [5, 6] (fun u i wr => ∃ (j : Nat) (last : Int), i = .int .i64 last ∧ Hid (At0 (kidsT T x) j last) ∧ Hid (Ow wr w.heap.size 3 1 zf u ((kidsT T x).take j)) ∧ Hid (Kp No w wr)) (fun u _ _ => (kidsT T x).length - lenOf u)
  case atStart => exact ⟨0, 0, rfl, hid ⟨Nat.zero_le _, rfl⟩, hid (Ow.nil _ _ _ _ _), hid (Kp.refl _ _)⟩
  case round =>
    obtain ⟨j, last, rfl, HA, HO, KW⟩ := hrel
    obtain ⟨wa, hwa⟩ : ∃ wa, wr = wa := ⟨_, rfl⟩
    rw [hwa] at HO KW ⊢
    clear hwa
    have cL0 := HCL.out wa KW.out
    go_wp2_with fail
    go_loopw [7, 8] (fun nx i wr => ∃ (k : Nat) (next : Int), k ≤ n ∧ i = .int .i64 (k : Int) ∧ nx = .int .i64 next ∧ Hid (Nx x last (L.take k) next) ∧ Hid (Kp No wa wr)) (fun _ i _ => n - (intOf i).toNat)
    case atStart => exact ⟨0, 0, Nat.zero_le _, rfl, rfl, hid (.inl ⟨rfl, fun y hy => by simp at hy⟩), hid (Kp.refl _ _)⟩
    case round =>
      obtain ⟨k, next, hk, rfl, rfl, HX, KI⟩ := hrel
      clear cL0
      have cL := HCL.out wr (KW.out.trans KI.out)
      by_cases hkn : k < n
      · have g1 : (k : Int) < (n : Int) := by omega
        have hkl : k < L.length := by rw [HN.out]; exact hkn
        obtain ⟨b, o, rfl⟩ := HRT.out.rw.there (by omega)
        have hc1 := (HRT.out.rw.kp0 (KW.out.trans KI.out)).cell (i := 0) (Kp.refl No wr) hkl (by omega) rfl
        have hc2 := (HRT.out.rw.kp0 (KW.out.trans KI.out)).cell (i := 1) (Kp.refl No wr) hkl (by omega) rfl
        simp only [pc, if_true, Nat.one_ne_zero, if_false, Nat.add_zero, ← Nat.add_assoc] at hc1 hc2
        have HY := hid (take_s L hkl (0, 0))
        have HM := hid (show L.getD k (0, 0) ∈ L by simp [List.getD, hkl])
        obtain ⟨y, hy⟩ : ∃ y, L.getD k (0, 0) = y := ⟨_, rfl⟩
        rw [hy] at hc1 hc2 HY HM
        obtain ⟨yi, yp⟩ := y
        simp only at hc1 hc2
        have hwk := wrapI (x := (k : Int) + 1) (by unfold I64; omega)
        clear hy hkl
        by_cases e1 : yp = x
        · have hyx := hid e1
          have d1 : (yp == x) = true := by simp [e1]
          have HP := hid (show 0 < yi by
            have := (kid_pos HW.out ((HLT.out.kid HW.out x yi).1 (by rw [← e1]; exact HM.out))).1
            omega)
          clear e1
          by_cases e2 : last < yi
          · have hyl := hid e2
            by_cases e3 : next = 0
            · have d3 : (next == 0) = true := by simp [e3]
              have HE3 := hid e3
              clear e3
              have HX2 := hid (show Nx x last (L.take (k + 1)) yi by
                rw [HY.out, hyx.out]
                exact HX.out.take HP.out hyl.out (.inl HE3.out))
              go_wp2_with fail
              go_roundw
              case rel => exact ⟨k + 1, yi, by omega, by go_num, rfl, HX2, hid (KI.out.alloc _)⟩
              case measure => simp [intOf]; omega
            · have d3 : (next == 0) = false := by simp [e3]
              have HE3 := hid e3
              clear e3
              by_cases e4 : yi < next
              · have HE4 := hid e4
                have HX2 := hid (show Nx x last (L.take (k + 1)) yi by
                  rw [HY.out, hyx.out]
                  exact HX.out.take HP.out hyl.out (.inr HE4.out))
                go_wp2_with fail
                go_roundw
                case rel => exact ⟨k + 1, yi, by omega, by go_num, rfl, HX2, hid (KI.out.alloc _)⟩
                case measure => simp [intOf]; omega
              · have HE4 := hid e4
                have HX2 := hid (show Nx x last (L.take (k + 1)) next by
                  rw [HY.out]
                  exact HX.out.skip fun y hy hlt => by cases hy; exact ⟨HE3.out, by have := HE4.out; omega⟩)
                go_wp2_with fail
                go_roundw
                case rel => exact ⟨k + 1, next, by omega, by go_num, rfl, HX2, hid (KI.out.alloc _)⟩
                case measure => simp [intOf]; omega
          · have HE2 := hid e2
            have HX2 := hid (show Nx x last (L.take (k + 1)) next by
              rw [HY.out]
              exact HX.out.skip fun y hy hlt => by cases hy; exact absurd hlt HE2.out)
            go_wp2_with fail
            go_roundw
            case rel => exact ⟨k + 1, next, by omega, by go_num, rfl, HX2, hid (KI.out.alloc _)⟩
            case measure => simp [intOf]; omega
        · have d1 : (yp == x) = false := by simp [e1]
          have HE1 := hid e1
          clear e1
          have HX2 := hid (show Nx x last (L.take (k + 1)) next by
            rw [HY.out]
            exact HX.out.skip fun y hy hlt => by cases hy; exact absurd rfl HE1.out)
          go_wp2_with fail
          go_roundw
          case rel => exact ⟨k + 1, next, by omega, by go_num, rfl, HX2, hid (KI.out.alloc _)⟩
          case measure => simp [intOf]; omega
      · have hkk : k = n := by omega
        subst hkk
        have hng : ¬ (k : Int) < (k : Int) := by omega
        have hx := HX.out
        rw [List.take_of_length_le (by rw [HN.out]; omega)] at hx
        by_cases e3 : next = 0
        · subst e3
          have hj := next_end HLT.out HW.out HA.out hx
          have HJ := hid (show (kidsT T x).take j = kidsT T x from List.take_of_length_le (by omega))
          clear hx hj
          go_wp2_with fail
          go_ret
          refine ⟨_, rfl, ?_, KW.out.trans KI.out⟩
          have := HO.out.kp0 KI.out
          rwa [HJ.out] at this
        · have d3 : (next == 0) = false := by simp [e3]
          obtain ⟨hj1, hj2⟩ := next_is HLT.out HW.out HA.out hx e3
          have hjm : next ∈ kidsT T x := by rw [hj2]; simp [List.getD, hj1]
          have HH := hid (kid_has hjm)
          have HS := hid (take_s (kidsT T x) hj1 0)
          rw [← hj2] at HS
          have HA2 := hid (show At0 (kidsT T x) (j + 1) next from ⟨hj1, by rw [if_neg (by omega)]; exact hj2⟩)
          have hlen : ((kidsT T x).take j).length = j := by rw [List.length_take]; omega
          have HLE := hid hlen
          have hj3 : j ≤ 1048577 := by omega
          have HJ1 := hid hj1
          have KK := hid (KW.out.trans KI.out)
          have KA := hid (KK.out.alloc (.cells #[.int .i64 next] 3))
          have OA := hid ((HO.out.kp0 KI.out).kp0 ((Kp.refl No wr).alloc (.cells #[.int .i64 next] 3)))
          have HZ := hid ((Blk.new wr 3 #[.int .i64 next]).cell 0)
          clear hx e3 hj1 hj2 hjm hlen
          go_wp2_with (first
            | (go_at_call 14
               refine (rhas_any (HRT.out.kp0 KK.out) HLT.out HW.out x).mono ?_
               rintro e w2 ⟨rfl, rfl⟩
               rw [HH.out])
            | (at_builtin
               refine wp_app1 usI zf_one rfl (.tmp 57) (.tmp 59) rfl (base := w.heap.size) (xs := (kidsT T x).take j) (y := next) (by exact OA.out) rfl (by
                 intro i hi
                 match i, hi with
                 | 0, _ => exact HZ.out) (by rw [HLE.out]; omega) (by rw [HLE.out]; simp only [maxLen]; omega) (by exact KA.out.size) ?_
               intro v5 w5 o5 k5 p5
               have O5 := hid o5
               have K5 := hid (KA.out.grown k5 fun i hi => .inr (OA.out.blk hi).1)
               clear o5 k5 p5))
          go_roundw
          case rel => exact ⟨j + 1, next, rfl, HA2, hid (by rw [HS.out]; exact O5.out), K5⟩
          case measure =>
            obtain ⟨_, _, e5⟩ := O5.out.formN (m := j + 1) (by rw [List.length_append, HLE.out]; rfl)
            obtain ⟨_, _, e6⟩ := HO.out.formN HLE.out
            rw [e5, e6]
            simp only [lenOf]
            have := HJ1.out
            omega
end
end Go.Proofs.Ytggmdgdgljlddaa
