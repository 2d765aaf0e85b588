/-
  Load: seats that come in.
-/
import Derived.Test.YtoeeighfjoplhaaLoSt2
import Derived.Test.YtoeeighfjoplhaaInts
import Derived.BigQuiet
import Derived.Deep.Slices
import Derived.Lib.SmallJoins
import Derived.OpenShut
/-
  Contracts of the document's answers that load's laws ask: Has, Same of ints, Load, Loads, Choose.
-/
namespace Go.Proofs.Ytoeeighfjoplhaa
open Go.RowKit
theorem take_snoc (xs : List Int) (k : Nat) (h : k < xs.length) : xs.take (k + 1) = xs.take k ++ [xs.getD k 0] := by
  rw [List.take_succ_eq_append_getElem h]
  simp [List.getD, h]
theorem half_pow (s k : Nat) : s / 2 ^ k / 2 = s / 2 ^ (k + 1) := by rw [Nat.div_div_eq_div_mul, Nat.pow_succ]

theorem refHas_any (s : Nat) (c : Int) (w : World) (hs : U64 s) :
    Calls Try.prog 21 #[.int .u64 (s : Int), .int .i64 c] w fun e w' => e = .returned (.bool (isIn s c)) ∧ w = w' := by
  by_cases hc : 0 ≤ c ∧ c < 64
  · obtain ⟨j, rfl⟩ : ∃ j : Nat, c = (j : Int) := ⟨c.toNat, by omega⟩
    have hj : j < 64 := by omega
    have hj2 : ¬ (63 : Int) < (j : Int) := by omega
    have HI := hid (isIn_nat s j hj)
    have HP := hid (half_pow s)
    have HU : Hid (∀ k, s / 2 ^ k < 18446744073709551616) := hid fun k => Nat.lt_of_le_of_lt (Nat.div_le_self _ _) hs
    clear hc hs
    go_enter Try.func21, Try.ntmps21
    go_wp2_with fail
    go_loop [0, 5] (fun x i => ∃ k y : Nat, k ≤ j ∧ i = .int .i64 (k : Int) ∧ x = .int .u64 (y : Int) ∧ Hid (s / 2 ^ k = y)) (fun _ i => j - (intOf i).toNat)
    case atStart => exact ⟨0, s, by omega, rfl, rfl, hid (by simp)⟩
    case round =>
      obtain ⟨k, y, hk, rfl, rfl, HY⟩ := hrel
      have hy : y < 18446744073709551616 := by rw [← HY.out]; exact HU.out k
      by_cases hlt : k < j
      · have hki : (k : Int) < (j : Int) := by omega
        go_wp2_with fail
        go_round
        case rel => exact ⟨k + 1, y / 2, by omega, by go_num, by go_num, hid (by rw [← HP.out, HY.out])⟩
        case measure => simp [intOf]; omega
      · have : k = j := by omega
        subst this
        have hb : ((y : Int) % 2 == 1) = s.testBit k := by
          rw [Nat.testBit_eq_decide_div_mod_eq, HY.out]
          exact Bool.eq_iff_iff.2 (by rw [beq_iff_eq, decide_eq_true_eq]; omega)
        go_wp2_with fail
        go_ret
        rw [HI.out]
        exact ⟨rfl, rfl⟩
  · have HI := hid (isIn_out s c hc)
    by_cases h0 : c < 0
    · clear hc
      go_enter Try.func21, Try.ntmps21
      go_wp2_with fail
      go_ret
      rw [HI.out]
      exact ⟨rfl, rfl⟩
    · have h1 : (63 : Int) < c := by omega
      clear hc
      go_enter Try.func21, Try.ntmps21
      go_wp2_with fail
      go_ret
      rw [HI.out]
      exact ⟨rfl, rfl⟩

theorem sameI_any {S T : Nat → Prop} (v u : Value) (xs ys : List Int) (w : World) (h : Sl (Value.int .i64) 0 w S v xs) (h' : Sl (Value.int .i64) 0 w T u ys) :
    Calls Try.prog 10 #[v, u] w fun e w' => e = .returned (.bool (decide (xs = ys))) ∧ ∃ n, w' = w.drewN n := by
  obtain ⟨A, c, rfl, hc, hm, hr⟩ := h
  obtain ⟨A', c', rfl, hc', hm', hr'⟩ := h'
  have HR := hid hr
  have HR' := hid hr'
  unfold maxLen at hm hm'
  clear hr hr'
  by_cases hne : xs.length = ys.length
  · have he : (((xs.length : Nat) : Int) == ((ys.length : Nat) : Int)) = true := by simp [hne]
    have he2 : (((xs.length : Nat) : Int) != ((ys.length : Nat) : Int)) = false := by simp [hne]
    have HN := hid hne
    clear hne
    go_enter Try.func10, Try.ntmps10
    go_wp2
    clear he he2
    go_loopw [5] (fun i w' => ∃ k n : Nat, k ≤ xs.length ∧ i = .int .i64 k ∧ w' = w.drewN n ∧ xs.take k = ys.take k) (fun i _ => xs.length - (intOf i).toNat)
    case atStart => exact ⟨0, 0, Nat.zero_le _, rfl, rfl, by simp⟩
    case round =>
      obtain ⟨k, n, hk, rfl, rfl, ht⟩ := hrel
      have HT := hid ht
      clear ht
      by_cases hlt : k < xs.length
      · have hlt2 : k < ys.length := by have := HN.out; omega
        obtain ⟨b, o, rfl, hb, hS, hcell⟩ := HR.out (by omega)
        obtain ⟨b', o', rfl, hb', hS', hcell'⟩ := HR'.out (by omega)
        have hc1 := hcell k hlt
        have hc2 := hcell' k hlt2
        clear hcell hcell'
        obtain ⟨x, hx⟩ : ∃ x, xs.getD k 0 = x := ⟨_, rfl⟩
        obtain ⟨y, hy⟩ : ∃ y, ys.getD k 0 = y := ⟨_, rfl⟩
        rw [hx] at hc1
        rw [hy] at hc2
        have HX := hid hx
        have HY := hid hy
        have hki : (k : Int) < (xs.length : Int) := by omega
        have hki2 : (k : Int) < (ys.length : Int) := by omega
        clear hx hy HR HR'
        by_cases heq : x = y
        · subst heq
          have hb1 : (x != x) = false := by simp
          go_wp2
          go_quiet (fail)
          go_wp2
          go_roundw
          case rel =>
            refine ⟨k + 1, _, by omega, by go_num, rfl, ?_⟩
            rw [take_snoc xs k hlt, take_snoc ys k hlt2, HX.out, HY.out, HT.out]
          case measure => simp [intOf]; omega
        · have hb1 : (x != y) = true := by simp [heq]
          have hb2 : (x == y) = false := by simp [heq]
          go_wp2
          go_quiet (fail)
          go_wp2
          go_ret
          have hd : ¬ xs = ys := fun e => heq (by rw [← HX.out, ← HY.out, e])
          exact ⟨by simp [hd], _, by rw [World.drewN_drewN]⟩
      · go_wp2
        go_ret
        have hd : xs = ys := by
          have := HT.out
          rwa [List.take_of_length_le (by omega), List.take_of_length_le (by have := HN.out; omega)] at this
        exact ⟨by simp [hd], _, rfl⟩
  · have he2 : (((xs.length : Nat) : Int) != ((ys.length : Nat) : Int)) = true := by rw [bne_iff_ne]; omega
    have hd : ¬ xs = ys := fun e => hne (by rw [e])
    have HD := hid hd
    clear hd hne
    go_enter Try.func10, Try.ntmps10
    go_wp2
    go_ret
    exact ⟨by simp [HD.out], 0, rfl⟩

section
variable {P : Program} {α : Type} {n bytes : Nat} {z : Value} {f : α → Nat → Value} {t e : TypeId} {base : Nat} {xs : List α} {y : α} {w : World}
theorem wp_app1 (u : Us P t e n bytes z) (hf : ∀ x i, (f x i).oneCell' = true) {ops : Array Oper} {rest : List Oper} {o : Oper} {a : Act} {Q : Exit → Act → World → Prop} (hw : Region.wanted o (yielded ops a.tmps) = true) (s x : Operand)
    (ho : o.op = .call { callee := .builtin .append, args := #[s, x], argTypes := #[t, t] }) {q : Nat} (hown : Ow w base e n f (a.eval s) xs) (hx : a.eval x = .slice (some ⟨q, 0, none⟩) 1 1) (hq : ∀ i, i < n → w.cell? ⟨q, i, none⟩ = some (f y i))
    (hle : (xs.length + 1) * bytes ≤ 140737488355328) (h63 : xs.length + 1 ≤ maxLen) (hbase : base ≤ w.heap.size)
    (h : ∀ v' w', Ow w' base e n f v' (xs ++ [y]) → w.grownBy w' (a.eval s).ownBlock → (v'.ownBlock = (a.eval s).ownBlock ∨ v'.ownBlock = some w.heap.size) → wpList P ops Q rest (a.put o.dst v') w') : wpList P ops Q (o :: rest) a w := by
  refine BigFrame.wpList_want hw fun K hK => ?_
  obtain ⟨v', w', hrun, h2, h3, h5⟩ := run_app1 (P := P) (ty := o.type) u hf hown hq hle h63 hbase
  unfold Oper.wp execOp
  simp only [ho, hx, resolve, invoke, builtin, Sem.run_bind, Sem.run_pure, Result.andThen_ok, List.map_toArray, List.map_cons, List.map_nil, hrun]
  exact hK _ _ (h v' w' h2 h3 h5)
end
section
variable {w : World} {b : Option Nat} {n c : Nat} {ks : List Int}
/-- append of one int onto a row, in a plain region. -/
theorem wp_row {ops : Array Oper} {rest : List Oper} {o : Oper} {a : Act} {Q : Exit → Act → World → Prop} (hw : Region.wanted o (yielded ops a.tmps) = true) (s x : Operand) (ho : o.op = .call { callee := .builtin .append, args := #[s, x], argTypes := #[24, 24] })
    {q : Nat} {y : Int} (hv : a.eval s = gsl b n c) (hr : RowI w b n c ks) (hx : a.eval x = .slice (some ⟨q, 0, none⟩) 1 1) (hq : w.cell? ⟨q, 0, none⟩ = some (.int .i64 y)) (hl : ks.length ≤ 100000)
    (h : ∀ b' c' w', RowI w' b' (n + 1) c' (ks ++ [y]) → (b' = b ∨ b' = some w.heap.size) → Kp (fun i => b = some i) w w' → wpList Try.prog ops Q rest (a.put o.dst (gsl b' (n + 1) c')) w') : wpList Try.prog ops Q (o :: rest) a w := by
  have hn := hr.1
  have hob : (gsl b n c).ownBlock = b := by cases b <;> rfl
  refine wp_app1 (base := 0) usI (fun _ _ => rfl) hw s x ho (y := y) (by rw [hv]; exact hr.ow fun k _ => Nat.zero_le _) hx (fun i hi => by
    obtain rfl : i = 0 := by omega
    exact hq) (by omega) (by simp only [maxLen]; omega) (Nat.zero_le _) ?_
  intro v' w' o' k' p'
  obtain ⟨b', c', rfl, hr', _⟩ := RowI.of_ow o'
  have hl' : (ks ++ [y]).length = n + 1 := by rw [List.length_append, hn]; rfl
  rw [hl'] at hr' p' ⊢
  have hob' : (gsl b' (n + 1) c').ownBlock = b' := by cases b' <;> rfl
  rw [hv, hob, hob'] at p'
  rw [hv, hob] at k'
  exact h b' c' w' hr' p' ((Kp.refl (fun i => b = some i) w).grown k' fun k hk => .inl hk)
end
set_option maxRecDepth 100000 in
set_option maxHeartbeats 4000000 in
/-- The document's Load. -/
theorem rload_any {w : World} {Pb : Nat → Prop} {v : Value} {ss : List St} {k : Nat} (hr : Rw 3 sc st0 w Pb v ss) (hn : ss.length ≤ 1000000) :
    Calls Try.prog 24 #[v, .int .i64 (k : Int)] w fun e w' => e = .returned (.int .i64 (cnt ss k : Int)) ∧ Kp No w w' := by
  have HR := hid hr
  obtain ⟨A, c, rfl, _⟩ := id hr
  have HN := hid hn
  clear hr hn
  go_enter Try.func24, Try.ntmps24
  go_wp2_with fail
  go_loopw [5, 6] (fun u v wr => ∃ i : Nat, u = .int .i64 ((plcs ss k i).length : Int) ∧ v = .int .i64 (i : Int) ∧ i ≤ ss.length ∧ Hid (Kp No w wr)) (fun _ v _ => ss.length - (vNum v).toNat)
  case atStart => exact ⟨0, rfl, rfl, Nat.zero_le _, hid (Kp.refl _ _)⟩
  case round =>
    obtain ⟨i, rfl, rfl, hi, HK⟩ := hrel
    have hN := HN.out
    have hpl := plcs_len ss k i
    have wi := wrapI (x := (i : Int) + 1) (by unfold I64; omega)
    have wl := wrapI (x := ((plcs ss k i).length : Int) + 1) (by unfold I64; omega)
    by_cases hlt : i < ss.length
    · have glt : (i : Int) < (ss.length : Int) := by omega
      obtain ⟨ba, oa, rfl⟩ := HR.out.there (by omega)
      have q1 := HR.out.cell (j := i) (i := 1) HK.out (by omega) (by omega) rfl
      rw [← Nat.add_assoc] at q1
      have HSC := hid (plcs_succ ss k i)
      obtain ⟨s, hs⟩ : ∃ s, ss.getD i st0 = s := ⟨_, rfl⟩
      rw [hs] at q1 HSC
      simp only [sc] at q1
      clear hs
      by_cases he : s.core = (k : Int)
      · have hb : (s.core == (k : Int)) = true := by simp [he]
        go_wp2_with fail
        go_roundw
        case rel => exact ⟨i + 1, by rw [HSC.out, if_pos he, List.length_append]; go_num, by go_num, by omega, HK⟩
        case measure => simp [vNum] <;> omega
      · have hb : (s.core == (k : Int)) = false := by simp [he]
        go_wp2_with fail
        go_roundw
        case rel => exact ⟨i + 1, by rw [HSC.out, if_neg he, List.append_nil], by go_num, by omega, HK⟩
        case measure => simp [vNum] <;> omega
    · obtain rfl : i = ss.length := by omega
      have glt : ¬ (ss.length : Int) < (ss.length : Int) := by omega
      go_wp2_with fail
      go_ret
      exact ⟨rfl, HK.out⟩
set_option maxRecDepth 100000 in
set_option maxHeartbeats 4000000 in
/-- The document's Loads. -/
theorem rloads_any {w : World} {Pb : Nat → Prop} {v : Value} {ss : List St} {n : Int} (hr : Rw 3 sc st0 w Pb v ss) (hn : ss.length ≤ 1000000) :
    Calls Try.prog 12 #[v, .int .i64 n] w fun e w' => ∃ b c, e = .returned (gsl b (hu n) c) ∧ RowI w' b (hu n) c ((List.range (hu n)).map fun k => (cnt ss k : Int)) ∧ (∀ k, b = some k → w.heap.size ≤ k) ∧ Kp No w w' := by
  have HR := hid hr.anyP
  obtain ⟨A, c, rfl, _⟩ := id hr
  have HN := hid hn
  have HU := hid (show hu n ≤ 64 ∧ ∀ k : Nat, ((k : Int) < n ∧ (k : Int) < 64 ↔ k < hu n) from ⟨hu_le n, fun k => by unfold hu; omega⟩)
  clear hr hn
  have mixed : Try.prog.follows .mixedOrders = true := by kernel_rfl
  go_enter Try.func12, Try.ntmps12
  go_wp2_with fail
  go_loopw [5, 6] (fun u v wr => ∃ (k : Nat) (b : Option Nat) (cc : Nat), u = gsl b k cc ∧ v = .int .i64 (k : Int) ∧ k ≤ hu n ∧ Hid (RowI wr b k cc ((List.range k).map fun k => (cnt ss k : Int))) ∧ Hid (∀ q, b = some q → w.heap.size ≤ q) ∧ Hid (Kp No w wr)) (fun _ v _ => hu n - (vNum v).toNat)
  case atStart => exact ⟨0, none, 0, rfl, rfl, Nat.zero_le _, hid (RowI.nil _), hid (fun q e => by cases e), hid (Kp.refl _ _)⟩
  case round =>
    obtain ⟨k, b, cc, rfl, rfl, hk, HB, HBB, HK⟩ := hrel
    have h64 := HU.out.1
    have wk := wrapI (x := (k : Int) + 1) (by unfold I64; omega)
    have HLO := hid (fun (W : World) (kk : Kp No w W) => rload_any (k := k) (HR.out.kp0 kk) HN.out)
    by_cases hlt : k < hu n
    · obtain ⟨g1, g2⟩ := (HU.out.2 k).2 hlt
      go_wp2_with (first
        | (go_at_call 24; refine (HLO.out _ HK.out).mono ?_; rintro e w4 ⟨rfl, k4⟩; have K4 := hid k4; clear k4)
        | (refine wp_row rfl (.tmp 16) (.tmp 20) rfl (b := b) (n := k) (c := cc) (ks := (List.range k).map fun k => (cnt ss k : Int)) (y := (cnt ss k : Int)) (by rfl) (by exact (HB.out.kp0 K4.out).kp0 ((Kp.refl No _).alloc _)) (by rfl) (by exact (Blk.new _ _ _).cell 0) (by simp; omega) ?_
           intro b5 c5 w5 r5 o5 k5; have R5 := hid r5; have O5 := hid o5; have K5 := hid k5; clear r5 o5 k5))
      go_roundw
      case rel =>
        refine ⟨k + 1, b5, c5, rfl, by go_num, by omega, hid ?_, hid fun q hq => ?_, hid ?_⟩
        · have := R5.out
          rwa [List.range_succ, List.map_append]
        · rcases O5.out with e | e
          · exact HBB.out q (e ▸ hq)
          · rw [e] at hq
            cases hq
            have := (HK.out.trans K4.out).size
            rw [World.size_alloc]
            omega
        · exact ((HK.out.trans K4.out).trans ((Kp.refl No _).alloc _)).step K5.out fun i hi e => by have := HBB.out i e; omega
      case measure => simp [vNum] <;> omega
    · have hkk : k = hu n := by omega
      have hng := fun h => hlt ((HU.out.2 k).1 h)
      by_cases g1 : (k : Int) < n
      · have g2 : ¬ (k : Int) < 64 := fun g => hng ⟨g1, g⟩
        have g2n : ¬ k < 64 := by omega
        go_wp2_with fail
        go_ret
        exact ⟨b, cc, by rw [← hkk]; rfl, by rw [← hkk]; exact HB.out, HBB.out, HK.out⟩
      · go_wp2_with fail
        go_ret
        exact ⟨b, cc, by rw [← hkk]; rfl, by rw [← hkk]; exact HB.out, HBB.out, HK.out⟩
end Go.Proofs.Ytoeeighfjoplhaa

/-
  Contract of the document's Choose.
-/
namespace Go.Proofs.Ytoeeighfjoplhaa
open Go.RowKit
/-- The core that is chosen of the first n. -/
def ChsP (cs : Nat) (ls : List Int) (n : Nat) (m : Int) : Prop :=
  (m = -1 ∧ ∀ i : Nat, i < 64 → i < n → cs.testBit i = false) ∨
  ∃ i : Nat, m = (i : Int) ∧ i < 64 ∧ i < n ∧ cs.testBit i = true ∧ ∀ j : Nat, j < 64 → j < n → cs.testBit j = true → ldF ls (i : Int) ≤ ldF ls (j : Int) ∧ (ldF ls (i : Int) = ldF ls (j : Int) → i ≤ j)
theorem ChsP.no {cs n : Nat} {ls : List Int} {m : Int} (h : ChsP cs ls n m) (hn : n < 64 → cs.testBit n = false) : ChsP cs ls (n + 1) m := by
  rcases h with ⟨e, h⟩ | ⟨i, e, h1, h2, h3, h4⟩
  · refine .inl ⟨e, fun j h1 h2 => ?_⟩
    by_cases c : j = n
    · subst c; exact hn h1
    · exact h j h1 (by omega)
  · refine .inr ⟨i, e, h1, by omega, h3, fun j g1 g2 g3 => ?_⟩
    by_cases c : j = n
    · subst c
      rw [hn g1] at g3
      cases g3
    · exact h4 j g1 (by omega) g3
theorem ChsP.yes {cs n : Nat} {ls : List Int} {m : Int} (h : ChsP cs ls n m) (h64 : n < 64) (hb : cs.testBit n = true) (hl : m < 0 ∨ ldF ls (n : Int) < ldF ls m) : ChsP cs ls (n + 1) (n : Int) := by
  refine .inr ⟨n, rfl, h64, by omega, hb, fun j g1 g2 g3 => ?_⟩
  by_cases c : j = n
  · subst c
    exact ⟨Int.le_refl _, fun _ => Nat.le_refl _⟩
  · rcases h with ⟨_, h⟩ | ⟨i, e, h1, h2, h3, h4⟩
    · rw [h j g1 (by omega)] at g3
      cases g3
    · have := h4 j g1 (by omega) g3
      subst e
      omega
theorem ChsP.keep {cs n : Nat} {ls : List Int} {m : Int} (h : ChsP cs ls n m) (hm : 0 ≤ m) (hl : ¬ ldF ls (n : Int) < ldF ls m) : ChsP cs ls (n + 1) m := by
  rcases h with ⟨e, h⟩ | ⟨i, e, h1, h2, h3, h4⟩
  · omega
  · refine .inr ⟨i, e, h1, by omega, h3, fun j g1 g2 g3 => ?_⟩
    by_cases c : j = n
    · subst c e
      exact ⟨by omega, fun _ => by omega⟩
    · exact h4 j g1 (by omega) g3
set_option maxRecDepth 100000 in
set_option maxHeartbeats 4000000 in
theorem rchoose_any {w : World} {cs n c : Nat} {A : Option Addr} {ls : List Int} (hcs : U64 cs) (hr : Rw 1 cI 0 w Anyb (.slice A n c) ls) (hn : ls.length = n) (hn2 : n ≤ 1000000) :
    Calls Try.prog 14 #[.int .u64 (cs : Int), .slice A n c] w fun e w' => ∃ m, e = .returned (.int .i64 m) ∧ ChsP cs ls n m ∧ Kp No w w' := by
  have HR := hid hr
  have HN := hid hn
  have HHA := hid (fun (W : World) (x : Int) => refHas_any cs x W hcs)
  have mixed : Try.prog.follows .mixedOrders = true := by kernel_rfl
  clear hr hn hcs
  go_enter Try.func14, Try.ntmps14
  go_wp2_with fail
  go_loopw [5, 6] (fun u v wr => ∃ (i : Nat) (m : Int), u = .int .i64 m ∧ v = .int .i64 (i : Int) ∧ i ≤ n ∧ Hid (ChsP cs ls i m) ∧ Hid (Kp No w wr)) (fun _ v _ => n - (vNum v).toNat)
  case atStart => exact ⟨0, -1, rfl, rfl, Nat.zero_le _, hid (.inl ⟨rfl, fun j _ h => by omega⟩), hid (Kp.refl _ _)⟩
  case round =>
    obtain ⟨i, m, rfl, rfl, hi, HP, HK⟩ := hrel
    have wi := wrapI (x := (i : Int) + 1) (by unfold I64; omega)
    by_cases hlt : i < n
    · have glt : (i : Int) < (n : Int) := by omega
      have HIB := hid (show isIn cs (i : Int) = (decide (i < 64) && cs.testBit i) from by
        by_cases h : i < 64
        · rw [isIn_nat cs i h, decide_eq_true h]; rfl
        · rw [isIn_out cs _ (by omega), decide_eq_false h]; rfl)
      by_cases hb0 : i < 64 ∧ cs.testBit i = true
      · have hbi : isIn cs (i : Int) = true := by rw [HIB.out, decide_eq_true hb0.1, hb0.2]; rfl
        by_cases hm0 : m < 0
        · have HN1 := hid (HP.out.yes hb0.1 hb0.2 (.inl hm0))
          have hm0' : ¬ 0 ≤ m := by omega
          go_upto_region 5 with fail
          refine region_all (fun W => Kp No w W) mixed (by kernel_rfl) (HK.out.trans (Kp.refl No _).drew) ?_
          repeat ((first | ((with_reducible refine cl_val (v := ?_) ?_ ?_ ?_); rotate_left; (focus (go_simp; done)); (focus (intro w' hw; (have z0 : True := trivial); go_simp; (try with_reducible rfl); done))) | ((with_reducible refine cl_skip ?_ ?_); (focus (first | (go_simp; done) | exact unwanted rfl rfl)))); simp only [Act.put, List.setIfInBounds_toArray, List.set_cons_zero, List.set_cons_succ])
          refine cl_call (v := .bool true) (by first | rfl | go_simp) (fun w' hw => by go_simp) (fun w' hw => (HHA.out w' (i : Int)).mono fun e w'' h => ⟨by rw [h.1, hbi], by rw [← h.2]; exact hw⟩) ?_
          simp only [Act.put, List.setIfInBounds_toArray, List.set_cons_zero, List.set_cons_succ]
          repeat ((first | ((with_reducible refine cl_val (v := ?_) ?_ ?_ ?_); rotate_left; (focus (go_simp; done)); (focus (intro w' hw; (have z0 : True := trivial); go_simp; (try with_reducible rfl); done))) | ((with_reducible refine cl_skip ?_ ?_); (focus (first | (go_simp; done) | exact unwanted rfl rfl)))); simp only [Act.put, List.setIfInBounds_toArray, List.set_cons_zero, List.set_cons_succ])
          refine cl_nil fun w5 hw => ?_
          have K5 := hid hw
          clear hw
          go_wp2_with fail
          go_roundw
          case rel => exact ⟨i + 1, (i : Int), rfl, by go_num, by omega, HN1, K5⟩
          case measure => simp [vNum] <;> omega
        · obtain ⟨b, hmb⟩ : ∃ b : Nat, m = (b : Int) := ⟨m.toNat, by omega⟩
          subst hmb
          have hbn : b < n := by
            rcases HP.out with ⟨e, _⟩ | ⟨q, e, _, h2, _⟩ <;> omega
          have gbn : (b : Int) < (n : Int) := by omega
          obtain ⟨ba, oa, rfl⟩ := HR.out.there (by have := HN.out; omega)
          obtain ⟨x, hx⟩ : ∃ x, ldF ls (i : Int) = x := ⟨_, rfl⟩
          obtain ⟨y, hy⟩ : ∃ y, ldF ls (b : Int) = y := ⟨_, rfl⟩
          have HCL := hid (fun (W : World) (kk : Kp No w W) => show W.cell? ⟨ba, oa + i, none⟩ = some (.int .i64 x) ∧ W.cell? ⟨ba, oa + b, none⟩ = some (.int .i64 y) from by
            have h1 := HR.out.cell (j := i) (i := 0) kk (by have := HN.out; omega) (by omega) rfl
            have h2 := HR.out.cell (j := b) (i := 0) kk (by have := HN.out; omega) (by omega) rfl
            rw [Nat.mul_one, Nat.add_zero] at h1 h2
            rw [← hx, ← hy]
            exact ⟨h1, h2⟩)
          have HX := hid hx
          have HY := hid hy
          clear hx hy
          have hm0' : (0 : Int) ≤ (b : Int) := by omega
          by_cases hxy : x < y
          · have HN1 := hid (HP.out.yes hb0.1 hb0.2 (.inr (by rw [HX.out, HY.out]; exact hxy)))
            go_upto_region 5 with fail
            refine region_all (fun W => Kp No w W) mixed (by kernel_rfl) (HK.out.trans (Kp.refl No _).drew) ?_
            repeat ((first | ((with_reducible refine cl_val (v := ?_) ?_ ?_ ?_); rotate_left; (focus (go_simp; done)); (focus (intro w' hw; obtain ⟨z0, z1⟩ := HCL.out _ hw; go_simp; (try with_reducible rfl); done))) | ((with_reducible refine cl_skip ?_ ?_); (focus (first | (go_simp; done) | exact unwanted rfl rfl)))); simp only [Act.put, List.setIfInBounds_toArray, List.set_cons_zero, List.set_cons_succ])
            refine cl_call (v := .bool true) (by first | rfl | go_simp) (fun w' hw => by go_simp) (fun w' hw => (HHA.out w' (i : Int)).mono fun e w'' h => ⟨by rw [h.1, hbi], by rw [← h.2]; exact hw⟩) ?_
            simp only [Act.put, List.setIfInBounds_toArray, List.set_cons_zero, List.set_cons_succ]
            repeat ((first | ((with_reducible refine cl_val (v := ?_) ?_ ?_ ?_); rotate_left; (focus (go_simp; done)); (focus (intro w' hw; obtain ⟨z0, z1⟩ := HCL.out _ hw; go_simp; (try with_reducible rfl); done))) | ((with_reducible refine cl_skip ?_ ?_); (focus (first | (go_simp; done) | exact unwanted rfl rfl)))); simp only [Act.put, List.setIfInBounds_toArray, List.set_cons_zero, List.set_cons_succ])
            refine cl_nil fun w5 hw => ?_
            have K5 := hid hw
            clear hw
            go_wp2_with fail
            go_roundw
            case rel => exact ⟨i + 1, (i : Int), rfl, by go_num, by omega, HN1, K5⟩
            case measure => simp [vNum] <;> omega
          · have HN1 := hid (HP.out.keep hm0' (by rw [HX.out, HY.out]; exact hxy))
            go_upto_region 5 with fail
            refine region_all (fun W => Kp No w W) mixed (by kernel_rfl) (HK.out.trans (Kp.refl No _).drew) ?_
            repeat ((first | ((with_reducible refine cl_val (v := ?_) ?_ ?_ ?_); rotate_left; (focus (go_simp; done)); (focus (intro w' hw; obtain ⟨z0, z1⟩ := HCL.out _ hw; go_simp; (try with_reducible rfl); done))) | ((with_reducible refine cl_skip ?_ ?_); (focus (first | (go_simp; done) | exact unwanted rfl rfl)))); simp only [Act.put, List.setIfInBounds_toArray, List.set_cons_zero, List.set_cons_succ])
            refine cl_call (v := .bool true) (by first | rfl | go_simp) (fun w' hw => by go_simp) (fun w' hw => (HHA.out w' (i : Int)).mono fun e w'' h => ⟨by rw [h.1, hbi], by rw [← h.2]; exact hw⟩) ?_
            simp only [Act.put, List.setIfInBounds_toArray, List.set_cons_zero, List.set_cons_succ]
            repeat ((first | ((with_reducible refine cl_val (v := ?_) ?_ ?_ ?_); rotate_left; (focus (go_simp; done)); (focus (intro w' hw; obtain ⟨z0, z1⟩ := HCL.out _ hw; go_simp; (try with_reducible rfl); done))) | ((with_reducible refine cl_skip ?_ ?_); (focus (first | (go_simp; done) | exact unwanted rfl rfl)))); simp only [Act.put, List.setIfInBounds_toArray, List.set_cons_zero, List.set_cons_succ])
            refine cl_nil fun w5 hw => ?_
            have K5 := hid hw
            clear hw
            go_wp2_with fail
            go_roundw
            case rel => exact ⟨i + 1, (b : Int), rfl, by go_num, by omega, HN1, K5⟩
            case measure => simp [vNum] <;> omega
      · have hbi : isIn cs (i : Int) = false := by
          rw [HIB.out]
          by_cases h : i < 64
          · have : cs.testBit i = false := by
              rcases hh : cs.testBit i with _ | _
              · rfl
              · exact absurd ⟨h, hh⟩ hb0
            rw [this, Bool.and_false]
          · rw [decide_eq_false h]; rfl
        have HN1 := hid (HP.out.no fun h => by
          rcases hh : cs.testBit i with _ | _
          · rfl
          · exact absurd ⟨h, hh⟩ hb0)
        clear hb0
        go_upto_region 5 with fail
        refine region_all (fun W => Kp No w W) mixed (by kernel_rfl) (HK.out.trans (Kp.refl No _).drew) ?_
        repeat ((first | ((with_reducible refine cl_val (v := ?_) ?_ ?_ ?_); rotate_left; (focus (go_simp; done)); (focus (intro w' hw; (have z0 : True := trivial); go_simp; (try with_reducible rfl); done))) | ((with_reducible refine cl_skip ?_ ?_); (focus (first | (go_simp; done) | exact unwanted rfl rfl)))); simp only [Act.put, List.setIfInBounds_toArray, List.set_cons_zero, List.set_cons_succ])
        refine cl_call (v := .bool false) (by first | rfl | go_simp) (fun w' hw => by go_simp) (fun w' hw => (HHA.out w' (i : Int)).mono fun e w'' h => ⟨by rw [h.1, hbi], by rw [← h.2]; exact hw⟩) ?_
        simp only [Act.put, List.setIfInBounds_toArray, List.set_cons_zero, List.set_cons_succ]
        repeat ((first | ((with_reducible refine cl_val (v := ?_) ?_ ?_ ?_); rotate_left; (focus (go_simp; done)); (focus (intro w' hw; (have z0 : True := trivial); go_simp; (try with_reducible rfl); done))) | ((with_reducible refine cl_skip ?_ ?_); (focus (first | (go_simp; done) | exact unwanted rfl rfl)))); simp only [Act.put, List.setIfInBounds_toArray, List.set_cons_zero, List.set_cons_succ])
        refine cl_nil fun w5 hw => ?_
        have K5 := hid hw
        clear hw
        go_wp2_with fail
        go_roundw
        case rel => exact ⟨i + 1, m, rfl, by go_num, by omega, HN1, K5⟩
        case measure => simp [vNum] <;> omega
    · obtain rfl : i = n := by omega
      have glt : ¬ (i : Int) < (i : Int) := by omega
      go_wp2_with fail
      go_ret
      exact ⟨m, rfl, HP.out, HK.out⟩
theorem ChsP.chs {cs n : Nat} {ls : List Int} {m : Int} (h : ChsP cs ls n m) (hn : ls.length = n) : Chs cs ls m := by
  subst hn
  exact h
end Go.Proofs.Ytoeeighfjoplhaa

/-
  Load: the law's example: three seats on core 0, of two cores.
-/
namespace Go.Proofs.Ytoeeighfjoplhaa
open Go.RowKit
def awS : List St := [⟨1, 0, 3⟩, ⟨2, 0, 3⟩, ⟨3, 0, 3⟩]
theorem aw_on : ∀ t : Nat, t < 64 → (3 : Nat).testBit t = true → t = 0 ∨ t = 1 := by decide
theorem aw_c0 : cnt awS 0 = 3 := by decide
theorem aw_c1 : cnt awS 1 = 0 := by decide
theorem aw_core (p : Nat) (h : p < 3) : (awS.getD p st0).core = 0 := by
  match p, h with
  | 0, _ => rfl
  | 1, _ => rfl
  | 2, _ => rfl
theorem aw_cs (x : Int) : U64 (csAt awS x) := by
  unfold csAt
  generalize x.toNat = n
  match n with
  | 0 => exact (show (3 : Nat) < 18446744073709551616 by decide)
  | 1 => exact (show (3 : Nat) < 18446744073709551616 by decide)
  | 2 => exact (show (3 : Nat) < 18446744073709551616 by decide)
  | _ + 3 => exact (show (0 : Nat) < 18446744073709551616 by decide)
theorem aw_mb : Mb awS (ldS awS) 3 0 0 := by
  refine ⟨1, by omega, by decide, by decide, ?_⟩
  have h1 := ldS_at awS (k := 1) (by omega)
  have h0 := ldS_at awS (k := 0) (by omega)
  rw [aw_c1] at h1
  rw [aw_c0] at h0
  have e1 : ((1 : Nat) : Int) = 1 := rfl
  have e0 : ((0 : Nat) : Int) = 0 := rfl
  rw [e1] at h1
  rw [e0] at h0
  rw [e1, h1, h0]
  decide
theorem aw_mv1 {p t : Nat} (h : Mv1 3 awS p t) : p = 0 ∧ t = 1 := by
  have hp : p < 3 := h.pl
  refine ⟨?_, ?_⟩
  · obtain ⟨P, x, hP, hy⟩ := h.all
    obtain ⟨k, h1, h2, h3⟩ := hy.xin
    have hpi := hy.pin
    rw [h2, Int.toNat_natCast] at hpi
    obtain ⟨p', g1, g2, g3⟩ := ((hP k h1).mem _).1 hpi
    have : p' = p := by omega
    subst this
    rw [aw_core p' hp] at g3
    have hk : k = 0 := by omega
    subst hk
    have h0 : (0 : Int) ∈ P 0 := ((hP 0 h1).mem _).2 ⟨0, by decide, rfl, rfl⟩
    refine Nat.eq_zero_of_not_pos fun hpos => ?_
    have hf := hy.first2 0 (by rw [h2]; exact h0) (.inl (by
      match p', hp, hpos with
      | 1, _, _ => decide
      | 2, _, _ => decide))
    rw [h2] at hf
    exact hf aw_mb
  · obtain ⟨k, h1, h2, h3, h4⟩ := h.frm
    rw [aw_core p hp] at h2
    have hk : k = 0 := by omega
    subst hk
    rw [aw_c0] at h4
    rcases aw_on t h.t64 h.ton with rfl | rfl
    · rw [aw_c0] at h4; omega
    · rfl
theorem aw_not0 (h : Mv0 3 awS) : False := by
  have := h 0 (by omega) (by decide) 0 (by decide) rfl 1 (by omega) (by decide) (by decide)
  rw [aw_c0, aw_c1] at this
  omega
theorem aw_mv0 : Mv0 3 (mvS awS 0 ((1 : Nat) : Int)) := fun k hk hb p hp hc g hg hgo hgc => by
  have c0 : cnt (mvS awS 0 ((1 : Nat) : Int)) 0 = 2 := by decide
  have c1 : cnt (mvS awS 0 ((1 : Nat) : Int)) 1 = 1 := by decide
  rcases aw_on k hk hb with rfl | rfl <;> rcases aw_on g hg hgo with rfl | rfl <;> simp only [c0, c1] <;> omega
theorem aw_settle {m : Nat} {s : List St} (h : Mvs 3 awS m s) (h0 : Mv0 3 s) : m = 1 := by
  rcases h.front with ⟨_, e⟩ | ⟨p, t, m', g1, rfl, g3⟩
  · subst e; exact (aw_not0 h0).elim
  · obtain ⟨rfl, rfl⟩ := aw_mv1 g1
    have := (g3.one h0 .none aw_mv0).1
    omega
theorem aw_row {w : World} {g : Nat} {t : TypeId} (h : Blk w g t #[.int .i64 1, .int .i64 0, .int .u64 3, .int .i64 2, .int .i64 0, .int .u64 3, .int .i64 3, .int .i64 0, .int .u64 3]) : Rw 3 sc st0 w Anyb (.slice (some ⟨g, 0, none⟩) 3 3) awS := by
  refine ⟨_, 3, rfl, by decide, by unfold maxLen; omega, fun _ => ⟨g, 0, rfl, h.lt, trivial, fun j i hj hi => ?_⟩⟩
  have hj : j < 3 := hj
  rw [h.cell]
  match j, hj, i, hi with
  | 0, _, 0, _ => rfl
  | 0, _, 1, _ => rfl
  | 0, _, 2, _ => rfl
  | 1, _, 0, _ => rfl
  | 1, _, 1, _ => rfl
  | 1, _, 2, _ => rfl
  | 2, _, 0, _ => rfl
  | 2, _, 1, _ => rfl
  | 2, _, 2, _ => rfl
set_option maxRecDepth 100000 in
set_option maxHeartbeats 4000000 in
theorem awake_any (w : World) : Calls Try.prog 9 #[] w fun e w' => e = .returned (.bool true) ∧ Kp No w w' := by
  go_enter Try.func9, Try.ntmps9
  go_upto_region 2 with fail
  have R1 := hid (aw_row (Blk.new w 38 #[.int .i64 1, .int .i64 0, .int .u64 3, .int .i64 2, .int .i64 0, .int .u64 3, .int .i64 3, .int .i64 0, .int .u64 3]))
  have K1 := hid ((Kp.refl No w).alloc (.cells #[.int .i64 1, .int .i64 0, .int .u64 3, .int .i64 2, .int .i64 0, .int .u64 3, .int .i64 3, .int .i64 0, .int .u64 3] 38))
  generalize w.alloc (.cells #[.int .i64 1, .int .i64 0, .int .u64 3, .int .i64 2, .int .i64 0, .int .u64 3, .int .i64 3, .int .i64 0, .int .u64 3] 38) = w1 at R1 K1 ⊢
  generalize w.heap.size = g at R1 ⊢
  have HB := hid (balance_any (on := 3) R1.out rfl (by omega) (show (3 : Nat) < 18446744073709551616 by decide) aw_cs)
  have HS := hid (fun (W : World) (kk : Kp No w1 W) => settle_any (on := 3) (R1.out.kp0 kk) (show awS.length ≤ 40 by decide) (show (3 : Nat) < 18446744073709551616 by decide) aw_cs)
  go_upto_region 3 with (go_at_call 15; refine HB.out.mono ?_; rintro e w2 ⟨k2, i, t, q, rfl, hq⟩; have K2 := hid k2; have HQ := hid hq; clear k2 hq)
  obtain ⟨rfl, rfl, rfl⟩ : q = true ∧ i = 1 ∧ t = 1 := by
    rcases HQ.out with ⟨h1, p', t', h2, h3, h4⟩ | ⟨_, _, _, h⟩
    · obtain ⟨rfl, rfl⟩ := aw_mv1 h4
      exact ⟨h1, h2, h3⟩
    · exact (aw_not0 h).elim
  go_wp2_with (go_at_call 18; refine (HS.out _ K2.out).mono ?_; rintro e w3 ⟨A, c, m, s, rfl, h1, h2, h3, k3⟩; obtain rfl := aw_settle h2 h3; have K3 := hid k3; clear h1 h2 h3 k3)
  go_ret
  exact ⟨rfl, (K1.out.trans K2.out).trans K3.out⟩
end Go.Proofs.Ytoeeighfjoplhaa

namespace Go.Proofs.Ytoeeighfjoplhaa
open Go.ChangeShapes Go.WideShapes Go.RowKit Go.Joins Go.Deep

section
variable {H : Type} {enc : TypeId × Value → H} {P : Program} {w : World} {base : Nat} {spare : Nat → Bool} {held : Bool} {t e : TypeId} {f0 f1 f2 : Field}
/-- One member of a row. -/
theorem cells_seat {fuel : Nat} {cs : List Value} {x : DataW H × List MemPlace} (hs : P.underlying e = some (.struct #[f0, f1, f2])) (hone : oneCellFields P #[f0, f1, f2] = true) (hC : P.cellsOf e = 3) (h0 : P.underlying f0.type = some (.int .i64)) (h1 : P.underlying f1.type = some (.int .i64)) (h2 : P.underlying f2.type = some (.int .u64))
    (h : DataW.trod enc P w base spare held fuel e cs = some x) : ∃ m : St, cs = [sc m 0, sc m 1, sc m 2] ∧ U64 m.cs := by
  obtain ⟨ys, n, _, _, hl, hyl, hf⟩ := DataW.trod_struct hs h
  rw [hC] at hl
  match cs, hl with
  | [a, b, c], _ =>
    match ys, hyl with
    | [y0, y1, y2], _ =>
      obtain ⟨o0, k0⟩ := hone_of hone 0 f0 rfl
      obtain ⟨o1, k1⟩ := hone_of hone 1 f1 rfl
      obtain ⟨o2, k2⟩ := hone_of hone 2 f2 rfl
      have g0 := hf 0 f0 rfl
      have g1 := hf 1 f1 rfl
      have g2 := hf 2 f2 rfl
      rw [o0, k0] at g0
      rw [o1, k1] at g1
      rw [o2, k2] at g2
      obtain ⟨x, e0, _, _⟩ := DataW.trod_int h0 g0
      obtain ⟨y, e1, _, _⟩ := DataW.trod_int h1 g1
      obtain ⟨z, e2, _, wz⟩ := DataW.trod_int h2 g2
      have hz := bounds_u64 wz
      obtain ⟨n, rfl⟩ : ∃ n : Nat, z = (n : Int) := ⟨z.toNat, by omega⟩
      simp at e0 e1 e2
      subst e0 e1 e2
      exact ⟨⟨x, y, n⟩, rfl, show n < 18446744073709551616 by omega⟩

/-- A slice of members that came in. -/
theorem open_seats {fuel : Nat} {A : Option Addr} {len cap : Nat} {x : DataW H × List MemPlace} (ht : P.underlying t = some (.slice e)) (hs : P.underlying e = some (.struct #[f0, f1, f2])) (hone : oneCellFields P #[f0, f1, f2] = true) (hC : P.cellsOf e = 3) (h0 : P.underlying f0.type = some (.int .i64)) (h1 : P.underlying f1.type = some (.int .i64)) (h2 : P.underlying f2.type = some (.int .u64))
    (h : DataW.trod enc P w base spare held fuel t [.slice A len cap] = some x) : ∃ xs : List St, Rw 3 sc st0 w Anyb (.slice A len cap) xs ∧ ∀ s ∈ xs, U64 s.cs := by
  rcases open_slice ht h with ⟨hcs, _⟩ | ⟨a, l, c, m, n, D, Pl, hcs, _, hl, hm, hmm, _, hi⟩
  · simp at hcs
    obtain ⟨rfl, rfl, rfl⟩ := hcs
    exact ⟨[], Rw.nil _ _ _ w Anyb, fun _ h => by cases h⟩
  · simp at hcs
    obtain ⟨rfl, rfl, rfl⟩ := hcs
    have hlm : len ≤ m := by rw [hmm]; split <;> omega
    have hx : ∀ i : Nat, ∃ q : St, i < len → (∀ j, j < 3 → w.cell? (a.add (i * 3 + j)) = some (sc q j)) ∧ U64 q.cs := by
      intro i
      by_cases hlt : i < len
      · obtain ⟨cs', hc, ht'⟩ := hi i (by omega)
        obtain ⟨q, rfl, hq⟩ := cells_seat hs hone hC h0 h1 h2 ht'
        rw [hC] at hc
        obtain ⟨_, _, hat⟩ := World.cells?_some hc
        refine ⟨q, fun _ => ⟨fun j hj => ?_, hq⟩⟩
        have := hat j hj
        rw [Go.Deep.add_add] at this
        rw [this]
        match j, hj with
        | 0, _ => rfl
        | 1, _ => rfl
        | 2, _ => rfl
      · exact ⟨st0, fun h => absurd h hlt⟩
    refine ⟨(List.range len).map fun i => (hx i).choose, ⟨some a, cap, by simp, by simpa using hl, hm, fun h0 => ?_⟩, fun q hq => ?_⟩
    · have hpos : 0 < len := by simpa using h0
      obtain ⟨b, o, spot⟩ := a
      have hc0 := ((hx 0).choose_spec hpos).1 0 (by omega)
      have hsp : spot = none := by simpa [Addr.add] using World.cell?_spot hc0
      subst hsp
      refine ⟨b, o, rfl, by simpa [Addr.add] using World.block_lt_of_cell? w _ hc0, trivial, fun j i hj hi3 => ?_⟩
      have hj' : j < len := by simpa using hj
      have ha : (⟨b, o, none⟩ : Addr).add (j * 3 + i) = ⟨b, o + (j * 3 + i), none⟩ := by unfold Addr.add; split <;> simp_all
      rw [← ha, ((hx j).choose_spec hj').1 i hi3]
      simp [List.getD, hj']
    · obtain ⟨i, hi', rfl⟩ := List.mem_map.1 hq
      exact ((hx i).choose_spec (List.mem_range.1 hi')).2
end
theorem csAt_ok {ss : List St} (h : ∀ s ∈ ss, U64 s.cs) (x : Int) : U64 (csAt ss x) := by
  unfold csAt
  by_cases hx : x.toNat < ss.length
  · rw [List.getD_eq_getElem?_getD, List.getElem?_eq_getElem hx]
    exact h _ (List.getElem_mem hx)
  · rw [List.getD_eq_getElem?_getD, List.getElem?_eq_none (by omega)]
    exact (show (0 : Nat) < 18446744073709551616 by decide)
end Go.Proofs.Ytoeeighfjoplhaa
