/-
  Contracts of the three comparisons: of bytes, of ints, of rows of sectors.
-/
import Derived.Test.YtndbkpmfimpgnaaDRows
import Derived.Test.YtndbkpmfimpgnaaArgs
import Derived.Laws.BytesArg
namespace Go.Proofs.Ytndbkpmfimpgnaa
open Go.RowKit

theorem take_snocL {α : Type} {d : α} (xs : List α) (k : Nat) (h : k < xs.length) : xs.take (k + 1) = xs.take k ++ [xs.getD k d] := by
  rw [List.take_succ_eq_append_getElem h]
  simp [List.getD, h]
theorem take_snoc (xs : List Int) (k : Nat) (h : k < xs.length) : xs.take (k + 1) = xs.take k ++ [xs.getD k 0] := take_snocL xs k h

theorem same_any {S T : Nat → Prop} (v u : Value) (xs ys : List Int) (w : World) (h : Byt w S v xs) (h' : Byt w T u ys) :
    Calls Try.prog 14 #[v, u] w fun e w' => e = .returned (.bool (decide (xs = ys))) ∧ ∃ n, w' = w.drewN n := by
  obtain ⟨A, c, rfl, hc, hm, hx, hr⟩ := h
  obtain ⟨A', c', rfl, hc', hm', hx', hr'⟩ := h'
  have HR := hid hr
  have HR' := hid hr'
  unfold maxLen at hm hm'
  clear hr hx hr' hx'
  by_cases hne : xs.length = ys.length
  · have he : (((xs.length : Nat) : Int) == ((ys.length : Nat) : Int)) = true := by simp [hne]
    have he2 : (((xs.length : Nat) : Int) != ((ys.length : Nat) : Int)) = false := by simp [hne]
    have HN := hid hne
    clear hne
    go_enter Try.func14, Try.ntmps14
    go_wp2
    clear he he2
    go_loopw [5] (fun i w' => ∃ k n : Nat, k ≤ xs.length ∧ i = .int .i64 k ∧ w' = w.drewN n ∧ xs.take k = ys.take k) (fun i _ => xs.length - (intOf i).toNat)
    case atStart => exact ⟨0, 0, Nat.zero_le _, rfl, rfl, by simp⟩
    case round =>
      obtain ⟨k, n, hk, rfl, rfl, ht⟩ := hrel
      have HT := hid ht
      clear ht
      by_cases hlt : k < xs.length
      · have hlt2 : k < ys.length := by have := HN.out; omega
        obtain ⟨b, o, rfl, hb, hS, hcell⟩ := HR.out (by omega)
        obtain ⟨b', o', rfl, hb', hS', hcell'⟩ := HR'.out (by omega)
        have hc1 := hcell k hlt
        have hc2 := hcell' k hlt2
        clear hcell hcell'
        obtain ⟨x, hx⟩ : ∃ x, xs.getD k 0 = x := ⟨_, rfl⟩
        obtain ⟨y, hy⟩ : ∃ y, ys.getD k 0 = y := ⟨_, rfl⟩
        rw [hx] at hc1
        rw [hy] at hc2
        have HX := hid hx
        have HY := hid hy
        have hki : (k : Int) < (xs.length : Int) := by omega
        have hki2 : (k : Int) < (ys.length : Int) := by omega
        clear hx hy HR HR'
        by_cases heq : x = y
        · subst heq
          have hb1 : (x != x) = false := by simp
          go_wp2
          go_quiet (fail)
          go_wp2
          go_roundw
          case rel =>
            refine ⟨k + 1, _, by omega, by go_num, rfl, ?_⟩
            rw [take_snoc xs k hlt, take_snoc ys k hlt2, HX.out, HY.out, HT.out]
          case measure => simp [intOf]; omega
        · have hb1 : (x != y) = true := by simp [heq]
          have hb2 : (x == y) = false := by simp [heq]
          go_wp2
          go_quiet (fail)
          go_wp2
          go_ret
          have hd : ¬ xs = ys := fun e => heq (by rw [← HX.out, ← HY.out, e])
          exact ⟨by simp [hd], _, by rw [World.drewN_drewN]⟩
      · go_wp2
        go_ret
        have hd : xs = ys := by
          have := HT.out
          rwa [List.take_of_length_le (by omega), List.take_of_length_le (by have := HN.out; omega)] at this
        exact ⟨by simp [hd], _, rfl⟩
  · have he2 : (((xs.length : Nat) : Int) != ((ys.length : Nat) : Int)) = true := by rw [bne_iff_ne]; omega
    have hd : ¬ xs = ys := fun e => hne (by rw [e])
    have HD := hid hd
    clear hd hne
    go_enter Try.func14, Try.ntmps14
    go_wp2
    go_ret
    exact ⟨by simp [HD.out], 0, rfl⟩
theorem sameI_any {S T : Nat → Prop} (v u : Value) (xs ys : List Int) (w : World) (h : Sl (Value.int .i64) 0 w S v xs) (h' : Sl (Value.int .i64) 0 w T u ys) :
    Calls Try.prog 19 #[v, u] w fun e w' => e = .returned (.bool (decide (xs = ys))) ∧ ∃ n, w' = w.drewN n := by
  obtain ⟨A, c, rfl, hc, hm, hr⟩ := h
  obtain ⟨A', c', rfl, hc', hm', hr'⟩ := h'
  have HR := hid hr
  have HR' := hid hr'
  unfold maxLen at hm hm'
  clear hr hr'
  by_cases hne : xs.length = ys.length
  · have he : (((xs.length : Nat) : Int) == ((ys.length : Nat) : Int)) = true := by simp [hne]
    have he2 : (((xs.length : Nat) : Int) != ((ys.length : Nat) : Int)) = false := by simp [hne]
    have HN := hid hne
    clear hne
    go_enter Try.func19, Try.ntmps19
    go_wp2
    clear he he2
    go_loopw [5] (fun i w' => ∃ k n : Nat, k ≤ xs.length ∧ i = .int .i64 k ∧ w' = w.drewN n ∧ xs.take k = ys.take k) (fun i _ => xs.length - (intOf i).toNat)
    case atStart => exact ⟨0, 0, Nat.zero_le _, rfl, rfl, by simp⟩
    case round =>
      obtain ⟨k, n, hk, rfl, rfl, ht⟩ := hrel
      have HT := hid ht
      clear ht
      by_cases hlt : k < xs.length
      · have hlt2 : k < ys.length := by have := HN.out; omega
        obtain ⟨b, o, rfl, hb, hS, hcell⟩ := HR.out (by omega)
        obtain ⟨b', o', rfl, hb', hS', hcell'⟩ := HR'.out (by omega)
        have hc1 := hcell k hlt
        have hc2 := hcell' k hlt2
        clear hcell hcell'
        obtain ⟨x, hx⟩ : ∃ x, xs.getD k 0 = x := ⟨_, rfl⟩
        obtain ⟨y, hy⟩ : ∃ y, ys.getD k 0 = y := ⟨_, rfl⟩
        rw [hx] at hc1
        rw [hy] at hc2
        have HX := hid hx
        have HY := hid hy
        have hki : (k : Int) < (xs.length : Int) := by omega
        have hki2 : (k : Int) < (ys.length : Int) := by omega
        clear hx hy HR HR'
        by_cases heq : x = y
        · subst heq
          have hb1 : (x != x) = false := by simp
          go_wp2
          go_quiet (fail)
          go_wp2
          go_roundw
          case rel =>
            refine ⟨k + 1, _, by omega, by go_num, rfl, ?_⟩
            rw [take_snoc xs k hlt, take_snoc ys k hlt2, HX.out, HY.out, HT.out]
          case measure => simp [intOf]; omega
        · have hb1 : (x != y) = true := by simp [heq]
          have hb2 : (x == y) = false := by simp [heq]
          go_wp2
          go_quiet (fail)
          go_wp2
          go_ret
          have hd : ¬ xs = ys := fun e => heq (by rw [← HX.out, ← HY.out, e])
          exact ⟨by simp [hd], _, by rw [World.drewN_drewN]⟩
      · go_wp2
        go_ret
        have hd : xs = ys := by
          have := HT.out
          rwa [List.take_of_length_le (by omega), List.take_of_length_le (by have := HN.out; omega)] at this
        exact ⟨by simp [hd], _, rfl⟩
  · have he2 : (((xs.length : Nat) : Int) != ((ys.length : Nat) : Int)) = true := by rw [bne_iff_ne]; omega
    have hd : ¬ xs = ys := fun e => hne (by rw [e])
    have HD := hid hd
    clear hd hne
    go_enter Try.func19, Try.ntmps19
    go_wp2
    go_ret
    exact ⟨by simp [HD.out], 0, rfl⟩

theorem toList_loop (a : ByteArray) : ∀ (n i : Nat) (r : List UInt8), a.size - i = n → ByteArray.toList.loop a i r = r.reverse ++ a.data.toList.drop i := by
  intro n
  induction n with
  | zero =>
    intro i r h
    unfold ByteArray.toList.loop
    have : a.data.size = a.size := rfl
    rw [if_neg (by omega), List.drop_eq_nil_of_le (by simp; omega), List.append_nil]
  | succ n ih =>
    intro i r h
    unfold ByteArray.toList.loop
    rw [if_pos (by omega), ih _ _ (by omega)]
    have hz : a.data.size = a.size := rfl
    have hi : i < a.data.toList.length := by simp; omega
    rw [List.drop_eq_getElem_cons hi]
    simp [ByteArray.get!]
    rw [getElem!_pos _ _ (by omega)]
theorem toList_data (a : ByteArray) : a.toList = a.data.toList := by
  unfold ByteArray.toList
  rw [toList_loop a _ 0 [] rfl]
  rfl
theorem strOf_inj {a b : List Int} (ha : ∀ x ∈ a, 0 ≤ x ∧ x ≤ 255) (hb : ∀ x ∈ b, 0 ≤ x ∧ x ≤ 255) (h : (strOfNums a).toList = (strOfNums b).toList) : a = b := by
  have e := h
  rw [toList_data, toList_data, strOfNums_data, strOfNums_data] at e
  have hl : a.length = b.length := by simpa using congrArg List.length e
  refine List.ext_getElem hl fun j h1 h2 => ?_
  have ej := congrArg (fun l : List UInt8 => l[j]?) e
  simp [h1, h2] at ej
  have b1 := ha _ (List.getElem_mem h1)
  have b2 := hb _ (List.getElem_mem h2)
  have en := congrArg UInt8.toNat ej
  simp at en
  omega

/-- Two rows of sectors compared as texts. -/
theorem sameK_any {S T : Nat → Prop} (v u : Value) (xs ys : List (List Int)) (w : World) (h : Kr w S v xs) (h' : Kr w T u ys) (sx : ∀ l ∈ xs, Sec l) (sy : ∀ l ∈ ys, Sec l) :
    Calls Try.prog 18 #[v, u] w fun e w' => e = .returned (.bool (decide (xs = ys))) ∧ ∃ n, w' = w.drewN n := by
  obtain ⟨A, c, rfl⟩ := h.form
  obtain ⟨A', c', rfl⟩ := h'.form
  have HR := hid h
  have HR' := hid h'
  have hm : xs.length ≤ 9223372036854775807 := by
    obtain ⟨_, _, bs, e, h1, h2, h3, _⟩ := h
    unfold maxLen at h2
    omega
  have hm' : ys.length ≤ 9223372036854775807 := by
    obtain ⟨_, _, bs, e, h1, h2, h3, _⟩ := h'
    unfold maxLen at h2
    omega
  have SX := hid sx
  have SY := hid sy
  clear h h' sx sy
  by_cases hne : xs.length = ys.length
  · have he : (((xs.length : Nat) : Int) == ((ys.length : Nat) : Int)) = true := by simp [hne]
    have he2 : (((xs.length : Nat) : Int) != ((ys.length : Nat) : Int)) = false := by simp [hne]
    have HN := hid hne
    clear hne
    go_enter Try.func18, Try.ntmps18
    go_wp2
    clear he he2
    go_loopw [5] (fun i w' => ∃ k n : Nat, k ≤ xs.length ∧ i = .int .i64 k ∧ w' = w.drewN n ∧ xs.take k = ys.take k) (fun i _ => xs.length - (intOf i).toNat)
    case atStart => exact ⟨0, 0, Nat.zero_le _, rfl, rfl, by simp⟩
    case round =>
      obtain ⟨k, n, hk, rfl, rfl, ht⟩ := hrel
      have HT := hid ht
      clear ht
      by_cases hlt : k < xs.length
      · have hlt2 : k < ys.length := by have := HN.out; omega
        obtain ⟨b, o, q, rfl, hc1, _, _, _, B1⟩ := HR.out.get hlt
        obtain ⟨b', o', q', rfl, hc2, _, _, _, B2⟩ := HR'.out.get hlt2
        obtain ⟨x, hx⟩ : ∃ x, xs.getD k [] = x := ⟨_, rfl⟩
        obtain ⟨y, hy⟩ : ∃ y, ys.getD k [] = y := ⟨_, rfl⟩
        rw [hx] at B1
        rw [hy] at B2
        have sx := SX.out x (by rw [← hx]; simp [List.getD, hlt])
        have sy := SY.out y (by rw [← hy]; simp [List.getD, hlt2])
        have hcv1 : ∀ m, (convert 30 9 (.slice (some ⟨q, 0, none⟩) 64 64)).run Try.prog (w.drewN m) = .ok (.string (strOfNums x)) (w.drewN m) := fun m => run_convert_bytes_arg (P := Try.prog) (w.drewN m) 30 5 (by kernel_rfl) (by kernel_rfl) q 0 64 64 x sx.len (fun i hi => by
          rw [Nat.zero_add]
          have := (B1.kp0 ((Kp.refl No w).drewN m)).cell i
          rw [this, List.getElem?_toArray, sc_at (by rw [sx.len]; exact hi)]) 9 (by kernel_rfl)
        have hcv2 : ∀ m, (convert 30 9 (.slice (some ⟨q', 0, none⟩) 64 64)).run Try.prog (w.drewN m) = .ok (.string (strOfNums y)) (w.drewN m) := fun m => run_convert_bytes_arg (P := Try.prog) (w.drewN m) 30 5 (by kernel_rfl) (by kernel_rfl) q' 0 64 64 y sy.len (fun i hi => by
          rw [Nat.zero_add]
          have := (B2.kp0 ((Kp.refl No w).drewN m)).cell i
          rw [this, List.getElem?_toArray, sc_at (by rw [sy.len]; exact hi)]) 9 (by kernel_rfl)
        have HX := hid hx
        have HY := hid hy
        have HI := hid (fun h => strOf_inj sx.rg sy.rg h)
        have hki : (k : Int) < (xs.length : Int) := by omega
        have hki2 : (k : Int) < (ys.length : Int) := by omega
        obtain ⟨X, hX⟩ : ∃ X, strOfNums x = X := ⟨_, rfl⟩
        obtain ⟨Y, hY⟩ : ∃ Y, strOfNums y = Y := ⟨_, rfl⟩
        rw [hX] at hcv1 HI
        rw [hY] at hcv2 HI
        have HX2 := hid hX
        have HY2 := hid hY
        clear hx hy HR HR' B1 B2 sx sy hX hY
        by_cases heq : X.toList = Y.toList
        · have hxy := hid (HI.out heq)
          have hb1 : (X.toList == Y.toList) = true := by simp [heq]
          clear heq
          go_wp2
          go_quiet (fail)
          go_wp2
          go_roundw
          case rel =>
            refine ⟨k + 1, _, by omega, by go_num, rfl, ?_⟩
            rw [take_snocL xs k hlt, take_snocL ys k hlt2, HX.out, HY.out, HT.out, hxy.out]
          case measure => simp [intOf]; omega
        · have hb2 : (X.toList == Y.toList) = false := by simp [heq]
          have HE := hid heq
          clear heq
          go_wp2
          go_quiet (fail)
          go_wp2
          go_ret
          have hd : ¬ xs = ys := fun e => HE.out (by rw [← HX2.out, ← HY2.out, ← HX.out, ← HY.out, e])
          exact ⟨by simp [hd], _, by rw [World.drewN_drewN]⟩
      · go_wp2
        go_ret
        have hd : xs = ys := by
          have := HT.out
          rwa [List.take_of_length_le (by omega), List.take_of_length_le (by have := HN.out; omega)] at this
        exact ⟨by simp [hd], _, rfl⟩
  · have he2 : (((xs.length : Nat) : Int) != ((ys.length : Nat) : Int)) = true := by rw [bne_iff_ne]; omega
    have hd : ¬ xs = ys := fun e => hne (by rw [e])
    have HD := hid hd
    clear hd hne
    go_enter Try.func18, Try.ntmps18
    go_wp2
    go_ret
    exact ⟨by simp [HD.out], 0, rfl⟩
end Go.Proofs.Ytndbkpmfimpgnaa
