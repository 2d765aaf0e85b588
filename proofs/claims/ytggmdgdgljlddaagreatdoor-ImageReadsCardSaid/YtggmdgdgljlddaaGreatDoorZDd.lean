/-
  Contracts of the document's Tree of pairs: Has, Kids, Under.
-/
import Derived.Test.YtggmdgdgljlddaaGreatDoorZDc
namespace Go.Proofs.YtggmdgdgljlddaaGreatDoor
open Go.RowKit Go.Shelf

/-- A pair. -/
def pcz (x : Int × Int) (i : Nat) : Value := if i = 0 then .int .i64 x.1 else .int .i64 x.2
theorem pcz_one (x : Int × Int) (i : Nat) : (pcz x i).oneCell' = true := by unfold pcz; split <;> rfl
/-- The document's tree at r: a list of pairs. -/
structure RTz (w : World) (P : Nat → Prop) (r : Nat) (v : Value) (L : List (Int × Int)) : Prop where
  hd : Blk w r 157 #[v]
  rw : Rw 2 pcz (0, 0) w P v L
  pr : ∀ i, P i → i ≠ r
/-- Those whose parent is x, rising. -/
structure KsZ (L : List (Int × Int)) (x : Int) (ks : List Int) : Prop where
  mem : ∀ y, (y, x) ∈ L ↔ y ∈ ks
  pos : ∀ y ∈ ks, 1 ≤ y ∧ y ≤ 1048576
  srt : ks.Pairwise (· < ·)
  len : ks.length ≤ 1000000
section
variable {w w' : World} {S P : Nat → Prop} {r : Nat} {v : Value} {L : List (Int × Int)} {x : Int} {ks : List Int}
theorem RTz.kp (h : RTz w P r v L) (k : Kp S w w') (hs : ∀ i, P i → ¬ S i) (hr : ¬ S r) : RTz w' P r v L := ⟨h.hd.kp k hr, h.rw.kp k fun i _ hp => hs i hp, h.pr⟩
theorem RTz.kp0 (h : RTz w P r v L) (k : Kp No w w') : RTz w' P r v L := h.kp k (fun _ _ h => h) fun h => h
set_option maxHeartbeats 1000000 in
set_option maxRecDepth 100000 in
theorem rzhas_any (h : RTz w P r v L) (hl : L.length ≤ 1000000) (x : Int) : Calls Tryz.prog 118 #[.pointer (some ⟨r, 0, none⟩), .int .i64 x] w fun e w' => e = .returned (.bool (decide (x ∈ L.map (·.1) ∨ x = 0))) ∧ w' = w := by
  have HR := hid h.rw
  have cL := h.hd.cell 0
  obtain ⟨A, c, rfl, hc, hm, _⟩ := h.rw
  unfold maxLen at hm
  obtain ⟨n, hn⟩ : ∃ n, L.length = n := ⟨_, rfl⟩
  have HN := hid hn
  obtain ⟨rs, hrs⟩ : ∃ rs, decide (x ∈ L.map (·.1) ∨ x = 0) = rs := ⟨_, rfl⟩
  rw [hrs]
  have HRS := hid hrs
  simp only [List.getElem?_toArray, List.getElem?_cons_zero] at cL
  rw [hn] at hc HR cL hl
  clear h hn hrs
  go_enter Tryz.func118, Tryz.ntmps118
  go_wp2_with fail
  go_loopw [5] (fun i wr => ∃ k : Nat, k ≤ n ∧ i = .int .i64 (k : Int) ∧ wr = w ∧ Hid (∀ y ∈ L.take k, y.1 ≠ x)) (fun i _ => n - (vI i).toNat)
  case atStart => exact ⟨0, Nat.zero_le _, rfl, rfl, hid (by simp)⟩
  case round =>
    obtain ⟨k, hk, rfl, rfl, HX⟩ := hrel
    by_cases hkn : k < n
    · have g1 : (k : Int) < (n : Int) := by omega
      have hkl : k < L.length := by rw [HN.out]; exact hkn
      obtain ⟨b, o, rfl⟩ := HR.out.there (by omega)
      have hc1 := HR.out.cell (i := 0) (Kp.refl No wr) hkl (by omega) rfl
      have hc2 := HR.out.cell (i := 1) (Kp.refl No wr) hkl (by omega) rfl
      simp only [pcz, if_true, Nat.one_ne_zero, if_false, Nat.add_zero, ← Nat.add_assoc] at hc1 hc2
      have HY := hid (take_s L hkl (0, 0))
      have HM := hid (show L.getD k (0, 0) ∈ L by simp [List.getD, hkl])
      obtain ⟨y, hy⟩ : ∃ y, L.getD k (0, 0) = y := ⟨_, rfl⟩
      rw [hy] at hc1 hc2 HY HM
      obtain ⟨yi, yp⟩ := y
      simp only at hc1 hc2
      have hwk := wrapI (x := (k : Int) + 1) (by unfold I64; omega)
      clear hy hkl
      by_cases e : yi = x
      · have e1 : (yi == x) = true := by simp [e]
        have HE := hid e
        clear e
        go_wp2_with fail
        go_ret
        have : rs = true := by
          rw [← HRS.out, decide_eq_true_eq]
          exact .inl (List.mem_map.2 ⟨_, HM.out, HE.out⟩)
        rw [this]
        exact ⟨rfl, rfl⟩
      · have e1 : (yi == x) = false := by simp [e]
        have HE := hid e
        clear e
        go_wp2_with fail
        go_roundw
        case rel => exact ⟨k + 1, by omega, by go_num, by first | rfl | trivial, hid (by
          intro y hy
          rw [HY.out, List.mem_append] at hy
          rcases hy with hy | hy
          · exact HX.out y hy
          · rw [List.mem_singleton.1 hy]
            exact HE.out)⟩
        case measure => simp [vI]; omega
    · have hkk : k = n := by omega
      subst hkk
      have hng : ¬ (k : Int) < (k : Int) := by omega
      have hx := HX.out
      rw [List.take_of_length_le (by rw [HN.out]; omega)] at hx
      have HNO := hid hx
      clear hx
      go_wp2_with fail
      go_ret
      refine ⟨?_, rfl⟩
      by_cases e : x = 0
      · have : rs = true := by
          rw [← HRS.out, decide_eq_true_eq]
          exact .inr e
        rw [this]
        simp [e]
      · have : rs = false := by
          rw [← HRS.out, decide_eq_false_iff_not]
          rintro (h1 | h1)
          · obtain ⟨y, hy, hyx⟩ := List.mem_map.1 h1
            exact HNO.out y hy hyx
          · exact e h1
        rw [this]
        simp [e]
/-- The least one so far above the last one. -/
def Nz (x last : Int) (l : List (Int × Int)) (next : Int) : Prop :=
  (next = 0 ∧ ∀ y, (y, x) ∈ l → ¬ last < y) ∨ (0 < next ∧ (next, x) ∈ l ∧ last < next ∧ ∀ y, (y, x) ∈ l → last < y → next ≤ y)
theorem Nz.skip {last next : Int} {l : List (Int × Int)} {z : Int × Int} (h : Nz x last l next) (hz : ∀ y, z = (y, x) → last < y → next ≠ 0 ∧ next ≤ y) : Nz x last (l ++ [z]) next := by
  rcases h with ⟨h1, h2⟩ | ⟨h1, h2, h3, h4⟩
  · refine .inl ⟨h1, fun y hy hl => ?_⟩
    rcases List.mem_append.1 hy with hy | hy
    · exact h2 y hy hl
    · exact (hz y (List.mem_singleton.1 hy).symm hl).1 h1
  · refine .inr ⟨h1, List.mem_append_left _ h2, h3, fun y hy hl => ?_⟩
    rcases List.mem_append.1 hy with hy | hy
    · exact h4 y hy hl
    · exact (hz y (List.mem_singleton.1 hy).symm hl).2
theorem Nz.take {last next y : Int} {l : List (Int × Int)} (h : Nz x last l next) (h0 : 0 < y) (hl : last < y) (hn : next = 0 ∨ y < next) : Nz x last (l ++ [(y, x)]) y := by
  refine .inr ⟨h0, List.mem_append_right _ List.mem_cons_self, hl, fun z hz hlz => ?_⟩
  rcases List.mem_append.1 hz with hz | hz
  · rcases h with ⟨h1, h2⟩ | ⟨h1, h2, h3, h4⟩
    · exact absurd hlz (h2 z hz)
    · have := h4 z hz hlz
      rcases hn with hn | hn <;> omega
  · have := List.mem_singleton.1 hz
    cases this
    exact Int.le_refl _
def Atz (ks : List Int) (i : Nat) (last : Int) : Prop := i ≤ ks.length ∧ last = if i = 0 then 0 else ks.getD (i - 1) 0
theorem srt_atz {ks : List Int} (h : ks.Pairwise (· < ·)) {i j : Nat} (hij : i < j) (hj : j < ks.length) : ks.getD i 0 < ks.getD j 0 := by
  have hi : i < ks.length := by omega
  have := List.pairwise_iff_getElem.1 h i j hi hj hij
  simpa [List.getD, hi, hj] using this
theorem next_endz (hk : KsZ L x ks) {i : Nat} {last : Int} (ha : Atz (ks) i last) (h : Nz x last L 0) : i = (ks).length := by
  rcases h with ⟨_, h2⟩ | ⟨h1, _⟩
  · obtain ⟨a1, a2⟩ := ha
    by_cases e : i = (ks).length
    · exact e
    · have hi : i < (ks).length := by omega
      have hm : (ks).getD i 0 ∈ ks := by simp [List.getD, hi]
      refine absurd ?_ (h2 _ ((hk.mem _).2 hm))
      rw [a2]
      split
      · have := (hk.pos _ hm).1
        omega
      · exact srt_atz (hk.srt) (by omega) hi
  · omega
theorem next_isz (hk : KsZ L x ks) {i : Nat} {last next : Int} (ha : Atz (ks) i last) (h : Nz x last L next) (hn : next ≠ 0) : i < (ks).length ∧ next = (ks).getD i 0 := by
  rcases h with ⟨h1, _⟩ | ⟨h1, h2, h3, h4⟩
  · exact absurd h1 hn
  · obtain ⟨a1, a2⟩ := ha
    have hm := (hk.mem next).1 h2
    obtain ⟨j, hj, he⟩ := List.mem_iff_getElem.1 hm
    have he2 : (ks).getD j 0 = next := by simp [List.getD, hj, he]
    have hij : i ≤ j := by
      rcases Nat.lt_or_ge j i with hlt | hge
      · rw [if_neg (by omega)] at a2
        rcases Nat.eq_or_lt_of_le (show j ≤ i - 1 by omega) with e | e
        · rw [← e, he2] at a2
          omega
        · have := srt_atz (hk.srt) e (by omega)
          omega
      · exact hge
    have hi : i < (ks).length := by omega
    refine ⟨hi, ?_⟩
    rcases Nat.eq_or_lt_of_le hij with e | e
    · rw [e, he2]
    · have h5 := srt_atz (hk.srt) e hj
      have hmi : (ks).getD i 0 ∈ ks := by simp [List.getD, hi]
      have h6 := h4 _ ((hk.mem _).2 hmi) (by
        rw [a2]
        split
        · have := (hk.pos _ hmi).1
          omega
        · exact srt_atz (hk.srt) (by omega) hi)
      omega
set_option maxHeartbeats 2000000 in
set_option maxRecDepth 100000 in
theorem rzkids_any (h : RTz w P r v L) (hl : L.length ≤ 1000000) (hks : KsZ L x ks) (hhx : x ∈ L.map (·.1) ∨ x = 0) : Calls Tryz.prog 119 #[.pointer (some ⟨r, 0, none⟩), .int .i64 x] w fun e w' => ∃ u, e = .returned u ∧ Ow w' w.heap.size 3 1 zI u ks ∧ Kp No w w' := by
  have HRT := hid h
  obtain ⟨A, c, rfl, hc, hm, _⟩ := h.rw
  unfold maxLen at hm
  obtain ⟨n, hn⟩ : ∃ n, L.length = n := ⟨_, rfl⟩
  have HN := hid hn
  have HKS := hid hks
  have hkl := hks.len
  have HLL := hid hl
  have HHX := hid hhx
  have hll : n ≤ 1000000 := by rw [← hn]; exact hl
  rw [hn] at hc HRT
  have HCL := hid (fun (w' : World) (kk : Kp No w w') => show w'.cell? ⟨r, 0, none⟩ = some (.slice A n c) from by have := (HRT.out.kp0 kk).hd.cell 0; simpa using this)
  clear h hn hl hks hhx
  go_enter Tryz.func119, Tryz.ntmps119
  go_wp2_with fail
  go_loopw [5, 6] (fun u i wr => ∃ (j : Nat) (last : Int), i = .int .i64 last ∧ Hid (Atz (ks) j last) ∧ Hid (Ow wr w.heap.size 3 1 zI u ((ks).take j)) ∧ Hid (Kp No w wr)) (fun u _ _ => (ks).length - lenOf u)
  case atStart => exact ⟨0, 0, rfl, hid ⟨Nat.zero_le _, rfl⟩, hid (Ow.nil _ _ _ _ _), hid (Kp.refl _ _)⟩
  case round =>
    obtain ⟨j, last, rfl, HA, HO, KW⟩ := hrel
    obtain ⟨wa, hwa⟩ : ∃ wa, wr = wa := ⟨_, rfl⟩
    rw [hwa] at HO KW ⊢
    clear hwa
    have cL0 := HCL.out wa KW.out
    go_wp2_with fail
    go_loopw [7, 8] (fun nx i wr => ∃ (k : Nat) (next : Int), k ≤ n ∧ i = .int .i64 (k : Int) ∧ nx = .int .i64 next ∧ Hid (Nz x last (L.take k) next) ∧ Hid (Kp No wa wr)) (fun _ i _ => n - (vI i).toNat)
    case atStart => exact ⟨0, 0, Nat.zero_le _, rfl, rfl, hid (.inl ⟨rfl, fun y hy => by simp at hy⟩), hid (Kp.refl _ _)⟩
    case round =>
      obtain ⟨k, next, hk, rfl, rfl, HX, KI⟩ := hrel
      clear cL0
      have cL := HCL.out wr (KW.out.trans KI.out)
      by_cases hkn : k < n
      · have g1 : (k : Int) < (n : Int) := by omega
        have hkl : k < L.length := by rw [HN.out]; exact hkn
        obtain ⟨b, o, rfl⟩ := HRT.out.rw.there (by omega)
        have hc1 := (HRT.out.rw.kp0 (KW.out.trans KI.out)).cell (i := 0) (Kp.refl No wr) hkl (by omega) rfl
        have hc2 := (HRT.out.rw.kp0 (KW.out.trans KI.out)).cell (i := 1) (Kp.refl No wr) hkl (by omega) rfl
        simp only [pcz, if_true, Nat.one_ne_zero, if_false, Nat.add_zero, ← Nat.add_assoc] at hc1 hc2
        have HY := hid (take_s L hkl (0, 0))
        have HM := hid (show L.getD k (0, 0) ∈ L by simp [List.getD, hkl])
        obtain ⟨y, hy⟩ : ∃ y, L.getD k (0, 0) = y := ⟨_, rfl⟩
        rw [hy] at hc1 hc2 HY HM
        obtain ⟨yi, yp⟩ := y
        simp only at hc1 hc2
        have hwk := wrapI (x := (k : Int) + 1) (by unfold I64; omega)
        clear hy hkl
        by_cases e1 : yp = x
        · have hyx := hid e1
          have d1 : (yp == x) = true := by simp [e1]
          have HP := hid (show 0 < yi by
            have := (HKS.out.pos yi ((HKS.out.mem yi).1 (by rw [← e1]; exact HM.out))).1
            omega)
          clear e1
          by_cases e2 : last < yi
          · have hyl := hid e2
            by_cases e3 : next = 0
            · have d3 : (next == 0) = true := by simp [e3]
              have HE3 := hid e3
              clear e3
              have HX2 := hid (show Nz x last (L.take (k + 1)) yi by
                rw [HY.out, hyx.out]
                exact HX.out.take HP.out hyl.out (.inl HE3.out))
              go_wp2_with fail
              go_roundw
              case rel => exact ⟨k + 1, yi, by omega, by go_num, rfl, HX2, hid (KI.out.alloc _)⟩
              case measure => simp [vI]; omega
            · have d3 : (next == 0) = false := by simp [e3]
              have HE3 := hid e3
              clear e3
              by_cases e4 : yi < next
              · have HE4 := hid e4
                have HX2 := hid (show Nz x last (L.take (k + 1)) yi by
                  rw [HY.out, hyx.out]
                  exact HX.out.take HP.out hyl.out (.inr HE4.out))
                go_wp2_with fail
                go_roundw
                case rel => exact ⟨k + 1, yi, by omega, by go_num, rfl, HX2, hid (KI.out.alloc _)⟩
                case measure => simp [vI]; omega
              · have HE4 := hid e4
                have HX2 := hid (show Nz x last (L.take (k + 1)) next by
                  rw [HY.out]
                  exact HX.out.skip fun y hy hlt => by cases hy; exact ⟨HE3.out, by have := HE4.out; omega⟩)
                go_wp2_with fail
                go_roundw
                case rel => exact ⟨k + 1, next, by omega, by go_num, rfl, HX2, hid (KI.out.alloc _)⟩
                case measure => simp [vI]; omega
          · have HE2 := hid e2
            have HX2 := hid (show Nz x last (L.take (k + 1)) next by
              rw [HY.out]
              exact HX.out.skip fun y hy hlt => by cases hy; exact absurd hlt HE2.out)
            go_wp2_with fail
            go_roundw
            case rel => exact ⟨k + 1, next, by omega, by go_num, rfl, HX2, hid (KI.out.alloc _)⟩
            case measure => simp [vI]; omega
        · have d1 : (yp == x) = false := by simp [e1]
          have HE1 := hid e1
          clear e1
          have HX2 := hid (show Nz x last (L.take (k + 1)) next by
            rw [HY.out]
            exact HX.out.skip fun y hy hlt => by cases hy; exact absurd rfl HE1.out)
          go_wp2_with fail
          go_roundw
          case rel => exact ⟨k + 1, next, by omega, by go_num, rfl, HX2, hid (KI.out.alloc _)⟩
          case measure => simp [vI]; omega
      · have hkk : k = n := by omega
        subst hkk
        have hng : ¬ (k : Int) < (k : Int) := by omega
        have hx := HX.out
        rw [List.take_of_length_le (by rw [HN.out]; omega)] at hx
        by_cases e3 : next = 0
        · subst e3
          have hj := next_endz HKS.out HA.out hx
          have HJ := hid (show (ks).take j = ks from List.take_of_length_le (by omega))
          clear hx hj
          go_wp2_with fail
          go_ret
          refine ⟨_, rfl, ?_, KW.out.trans KI.out⟩
          have := HO.out.kp0 KI.out
          rwa [HJ.out] at this
        · have d3 : (next == 0) = false := by simp [e3]
          obtain ⟨hj1, hj2⟩ := next_isz HKS.out HA.out hx e3
          have hjm : next ∈ ks := by rw [hj2]; simp [List.getD, hj1]
          have HS := hid (take_s (ks) hj1 0)
          rw [← hj2] at HS
          have HA2 := hid (show Atz (ks) (j + 1) next from ⟨hj1, by rw [if_neg (by omega)]; exact hj2⟩)
          have hlen : ((ks).take j).length = j := by rw [List.length_take]; omega
          have HLE := hid hlen
          have hj3 : j ≤ 1000000 := by omega
          have HJ1 := hid hj1
          have KK := hid (KW.out.trans KI.out)
          have KA := hid (KK.out.alloc (.cells #[.int .i64 next] 3))
          have OA := hid ((HO.out.kp0 KI.out).kp0 ((Kp.refl No wr).alloc (.cells #[.int .i64 next] 3)))
          have HZ := hid ((Blk.new wr 3 #[.int .i64 next]).cell 0)
          clear hx e3 hj1 hj2 hjm hlen
          go_wp2_with (first
            | (go_at_call 118
               refine (rzhas_any (HRT.out.kp0 KK.out) HLL.out x).mono ?_
               rintro e w2 ⟨rfl, rfl⟩
               rw [decide_eq_true HHX.out])
            | (at_builtin
               refine wp_app1 usI zI_one rfl (.tmp 57) (.tmp 59) rfl (base := w.heap.size) (xs := (ks).take j) (y := next) (by exact OA.out) rfl (by
                 intro i hi
                 match i, hi with
                 | 0, _ => exact HZ.out) (by rw [HLE.out]; omega) (by rw [HLE.out]; simp only [maxLen]; omega) (by exact KA.out.size) ?_
               intro v5 w5 o5 k5 p5
               have O5 := hid o5
               have K5 := hid (KA.out.grown k5 fun i hi => .inr (OA.out.blk hi).1)
               clear o5 k5 p5))
          go_roundw
          case rel => exact ⟨j + 1, next, rfl, HA2, hid (by rw [HS.out]; exact O5.out), K5⟩
          case measure =>
            obtain ⟨_, _, e5⟩ := O5.out.formN (m := j + 1) (by rw [List.length_append, HLE.out]; rfl)
            obtain ⟨_, _, e6⟩ := HO.out.formN HLE.out
            rw [e5, e6]
            simp only [lenOf]
            have := HJ1.out
            omega
end
section
variable {P : Program} {α : Type} {n bytes : Nat} {z : Value} {f : α → Nat → Value} {t e : TypeId} {base : Nat} {xs ys : List α} {d : α} {w : World}
/-- append of a row that is not nil onto what is owned; whose block it is. -/
theorem wp_appBz (u : Us P t e n bytes z) (hf : ∀ x i, (f x i).oneCell' = true) {ops : Array Oper} {rest : List Oper} {o : Oper} {a : Act} {Q : Exit → Act → World → Prop} (hw : Region.wanted o (yielded ops a.tmps) = true) (s x : Operand)
    (ho : o.op = .call { callee := .builtin .append, args := #[s, x], argTypes := #[t, t] }) {Pb : Nat → Prop} (hown : Ow w base e n f (a.eval s) xs) (hx : Rw n f d w Pb (a.eval x) ys) (h0 : 0 < ys.length)
    (hle : (xs.length + ys.length) * bytes ≤ 140737488355328) (h63 : xs.length + ys.length ≤ maxLen) (hbase : base ≤ w.heap.size)
    (h : ∀ v' w', Ow w' base e n f v' (xs ++ ys) → w.grownBy w' (a.eval s).ownBlock → (v'.ownBlock = (a.eval s).ownBlock ∨ v'.ownBlock = some w.heap.size) → wpList P ops Q rest (a.put o.dst v') w') : wpList P ops Q (o :: rest) a w := by
  refine BigFrame.wpList_want hw fun K hK => ?_
  obtain ⟨i, hi, hz, hs, hb⟩ := info_parts u.info
  obtain ⟨A, c, hev, hc, hm, hr⟩ := hx
  obtain ⟨b, o', rfl, _, _, hcell0⟩ := hr h0
  have hcell : ∀ j q, (flat n f ys)[j]? = some q → w.cell? ((⟨b, o', none⟩ : Addr).add j) = some q := by
    intro j q hq
    obtain ⟨k, i, hk, hi, rfl, rfl⟩ := flat_get (d := d) ys hq
    have ha : (⟨b, o', none⟩ : Addr).add (k * n + i) = ⟨b, o' + (k * n + i), none⟩ := by unfold Addr.add; split <;> simp_all
    rw [ha, hcell0 k i hk hi]
  obtain ⟨v', w', hrun, h2, h3, _, h5⟩ := run_append_own_at (P := P) w base t o.type e i z n bytes u.un hi hz hs hb u.zero u.pos (a.eval s) xs.length _ hown ⟨b, o', none⟩ ys.length c (flat n f ys) (flat_len ys) hcell
    (flat_one hf ys) h63 hle hbase
  unfold Oper.wp execOp
  simp only [ho, hev, resolve, invoke, builtin, Sem.run_bind, Sem.run_pure, Result.andThen_ok, List.map_toArray, List.map_cons, List.map_nil, hrun]
  refine hK _ _ (h v' w' ?_ h3 h5)
  unfold Ow
  rw [List.length_append, flat_app]
  exact h2
end
section
variable {w w' : World} {S P : Nat → Prop} {r : Nat} {v : Value} {L : List (Int × Int)} {K : Int → List GS}
set_option maxHeartbeats 2000000 in
set_option maxRecDepth 100000 in
theorem runderz_rec (hl : L.length ≤ 1000000) {gs : List GS} (hK : ∀ g ∈ gs, g.id ∈ L.map (·.1) ∧ I64 g.id ∧ KsZ L g.id ((K g.id).map (·.id))) : ∀ (N : Nat), N ≤ 1000001 → ∀ (g : GS) (d : Nat) (out : List Pl) (w : World), Vis K [(g, d)] out → out.length ≤ N → (∀ p ∈ out, p.1 ∈ gs) → RTz w P r v L → Calls Tryz.prog 93 #[.pointer (some ⟨r, 0, none⟩), .int .i64 g.id] w fun e w' => ∃ u, e = .returned u ∧ Ow w' w.heap.size 3 1 zI u (out.map fun p => p.1.id) ∧ Kp No w w' := by
  intro N
  induction N with
  | zero =>
    intro _ g d out w hv hn _ _
    have := hv.len
    simp at this
    omega
  | succ N ih =>
    intro hN g d out w hv hn hmem h
    obtain ⟨out2, rfl, hv2⟩ := hv.cons_inv
    rw [List.append_nil] at hv2
    rw [List.length_cons] at hn
    obtain ⟨hgm, hgi, hgk⟩ := hK g (hmem _ List.mem_cons_self)
    have HRT := hid h
    have HLL := hid hl
    have HK := hid hK
    have HIH := hid (ih (by omega))
    have HMEM := hid (fun p (hp : p ∈ out2) => hmem p (List.mem_cons_of_mem _ hp))
    have HGM := hid (And.intro hgm hgk)
    obtain ⟨kl, hkl⟩ : ∃ kl, K g.id = kl := ⟨_, rfl⟩
    rw [hkl] at hv2 HGM
    have HKL := hid hkl
    have hlen0 := hgk.len
    rw [hkl, List.length_map] at hlen0
    obtain ⟨nk, hnk⟩ : ∃ nk, kl.length = nk := ⟨_, rfl⟩
    have HNK := hid hnk
    rw [hnk] at hlen0
    obtain ⟨x, hx⟩ : ∃ x, g.id = x := ⟨_, rfl⟩
    rw [hx] at HGM hgi ⊢
    have HX := hid hx
    have HV := hid hv2
    have KA := hid ((Kp.refl No w).alloc (.cells #[.int .i64 x] 3))
    have OX := hid (show Ow (w.alloc (.cells #[.int .i64 x] 3)) w.heap.size 3 1 zI (.slice (some ⟨w.heap.size, 0, none⟩) 1 1) [x] from
      ⟨rfl, .inr ⟨w.heap.size, 1, #[.int .i64 x], rfl, Nat.le_refl _, heap_alloc_new w _, Nat.le_refl _, by simp [maxLen], rfl, rfl⟩⟩)
    rw [List.map_cons]
    simp only
    rw [hx]
    obtain ⟨os, hos⟩ : ∃ os, (out2.map fun p => p.1.id) = os := ⟨_, rfl⟩
    rw [hos]
    have HOS := hid hos
    have hosl : out2.length ≤ 1000000 := by omega
    clear hv hv2 hmem h hl hK ih hgm hgk hkl hnk hx hos
    go_enter Tryz.func93, Tryz.ntmps93
    go_wp2_with (first
      | (go_at_call 118
         refine (rzhas_any HRT.out HLL.out x).mono ?_
         rintro e w2 ⟨rfl, rfl⟩
         rw [decide_eq_true (.inl HGM.out.1)])
      | (go_at_call 119
         refine (rzkids_any (HRT.out.kp0 KA.out) HLL.out HGM.out.2 (.inl HGM.out.1)).mono ?_
         rintro e w3 ⟨v3, rfl, o3, k3⟩
         obtain ⟨A3, c3, rfl⟩ := o3.formN (m := nk) (by rw [List.length_map]; exact HNK.out)
         have O3 := hid o3
         have K3 := hid (KA.out.trans k3)
         have OX3 := hid (OX.out.kp0 k3)
         clear o3 k3))
    have hx3 := hid (show ∀ b, (Value.slice A3 nk c3).ownBlock = some b → (Value.slice (some ⟨w2.heap.size, 0, none⟩) 1 1).ownBlock ≠ some b from fun b hb e => by
      have := (O3.out.blk hb).1
      rw [World.size_alloc] at this
      have e : w2.heap.size = b := Option.some.inj e
      omega)
    have O3L := hid (O3.out.lower (base' := w2.heap.size) (by rw [World.size_alloc]; omega))
    go_loopw [5, 7] (fun u i wr => ∃ k : Nat, k ≤ nk ∧ i = .int .i64 (k : Int) ∧ Hid (∃ o1 o2, out2 = o1 ++ o2 ∧ Vis K (lay (d + 1) (kl.drop k)) o2 ∧ Ow wr w2.heap.size 3 1 zI u (x :: o1.map fun p => p.1.id)) ∧ Hid (Ow wr w2.heap.size 3 1 zI (.slice A3 nk c3) (kl.map (·.id))) ∧ Hid (∀ b, (Value.slice A3 nk c3).ownBlock = some b → u.ownBlock ≠ some b) ∧ Hid (Kp No w2 wr)) (fun _ i _ => nk - (vI i).toNat)
    case atStart => exact ⟨0, Nat.zero_le _, rfl, hid ⟨[], out2, rfl, by simpa using HV.out, by simpa using OX3.out⟩, O3L, hx3, K3⟩
    case round =>
      obtain ⟨k, hk, rfl, HO, HKR, HNE, KW⟩ := hrel
      obtain ⟨o1, o2, hsp, hvk, ho⟩ := HO.out
      by_cases hkn : k < nk
      · have hkl2 : k < kl.length := by rw [HNK.out]; exact hkn
        have hkl3 : k < (kl.map (·.id)).length := by rw [List.length_map]; exact hkl2
        have g1 : (k : Int) < (nk : Int) := by omega
        have hwk := wrapI (x := (k : Int) + 1) (by unfold I64; omega)
        obtain ⟨b, c', he, hb1, hb2, hc1, _⟩ := HKR.out.form2 (by omega)
        injection he with e1 e2 e3
        subst e1 e3
        clear e2
        have cy := HKR.out.cellAt (d := (0 : Int)) (j := k) (i := 0) hkl3 (by omega)
        simp only [zI, Nat.mul_one, Nat.add_zero] at cy
        have hdk : kl.drop k = kl.getD k gs0 :: kl.drop (k + 1) := by
          rw [List.drop_eq_getElem_cons hkl2]
          simp [List.getD, hkl2]
        have hyi : (kl.map (·.id)).getD k 0 = (kl.getD k gs0).id := by simp [List.getD, hkl2]
        rw [hyi] at cy
        rw [hdk] at hvk
        obtain ⟨y, hy⟩ : ∃ y, kl.getD k gs0 = y := ⟨_, rfl⟩
        rw [hy] at cy hvk
        have hvk' : Vis K ([(y, d + 1)] ++ lay (d + 1) (kl.drop (k + 1))) o2 := hvk
        obtain ⟨p1, p2, rfl, hv1, hv3⟩ := hvk'.split
        have hpl := hv1.len
        have hol := congrArg List.length hsp
        rw [List.length_append, List.length_append] at hol
        simp only [List.length_singleton] at hpl
        have HU := hid (HIH.out y (d + 1) p1 wr hv1 (by omega) (fun p hp => HMEM.out p (by rw [hsp]; exact List.mem_append_right _ (List.mem_append_left _ hp))) (HRT.out.kp0 KW.out))
        have HV3 := hid (And.intro hsp hv3)
        have HO1 := hid ho
        obtain ⟨la, hla⟩ : ∃ la, (o1.map fun p => p.1.id).length = la := ⟨_, rfl⟩
        obtain ⟨lu, hlu⟩ : ∃ lu, (p1.map fun p => p.1.id).length = lu := ⟨_, rfl⟩
        have hall : la + lu ≤ 1000000 ∧ 0 < lu := by
          rw [← hla, ← hlu, List.length_map, List.length_map]
          omega
        have HLA := hid hla
        have HLU := hid hlu
        have HPOS := hid (show 0 < (p1.map fun p => p.1.id).length by rw [hlu]; exact hall.2)
        clear hy hla hlu hsp hvk hvk' hv1 hv3 ho hdk hyi HO hpl hol
        go_wp2_with (first
          | (go_at_call 93
             refine HU.out.mono ?_
             rintro e w4 ⟨v4, rfl, o4, k4⟩
             have O4 := hid (Ow.rw (d := (0 : Int)) o4)
             have A4 := hid (HO1.out.kp0 k4)
             have KR4 := hid (HKR.out.kp0 k4)
             have K4 := hid (KW.out.trans k4)
             clear o4 k4)
          | (at_builtin
             refine wp_appBz usI zI_one rfl (.tmp 23) (.tmp 29) rfl (base := w2.heap.size) (xs := x :: o1.map fun p => p.1.id) (ys := p1.map fun p => p.1.id) (by exact A4.out) (by exact O4.out) HPOS.out (by rw [List.length_cons, HLA.out, HLU.out]; omega) (by rw [List.length_cons, HLA.out, HLU.out]; simp only [maxLen]; omega) (by exact K4.out.size) ?_
             intro v5 w5 o5 k5 p5
             have kA := (Kp.refl (fun i => u5.ownBlock = some i) _).grown k5 fun k hk => .inl hk
             have O5 := hid o5
             have KR5 := hid (KR4.out.kpx kA fun i hi e => HNE.out i hi e)
             have K5 := hid (K4.out.step kA fun i hi e => by have := (A4.out.blk e).1; omega)
             have NE5 := hid (show ∀ i, (Value.slice (some ⟨b, 0, none⟩) nk c3).ownBlock = some i → v5.ownBlock ≠ some i from fun i hi e => by
               rcases p5 with p | p
               · exact HNE.out i hi (p.symm.trans e)
               · rw [p] at e
                 have e := Option.some.inj e
                 have := (KR4.out.blk hi).2.1
                 omega)
             clear o5 k5 p5 kA))
        go_roundw
        case rel => exact ⟨k + 1, by omega, by go_num, hid ⟨o1 ++ p1, p2, by rw [List.append_assoc]; exact HV3.out.1, HV3.out.2, by rw [List.map_append]; exact O5.out⟩, KR5, NE5, K5⟩
        case measure => simp [vI]; omega
      · have hkk : k = nk := by omega
        subst hkk
        have hng : ¬ (k : Int) < (k : Int) := by omega
        rw [List.drop_eq_nil_of_le (by rw [HNK.out]; omega)] at hvk
        have ho2 := hvk.nil_iff
        subst ho2
        rw [List.append_nil] at hsp
        subst hsp
        rw [HOS.out] at ho
        have HO1 := hid ho
        clear ho hvk HO
        go_wp2_with fail
        go_ret
        exact ⟨_, rfl, HO1.out, KW.out⟩
end
end Go.Proofs.YtggmdgdgljlddaaGreatDoor
