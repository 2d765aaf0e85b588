/-
  slices.SortFunc, SortStableFunc, MinFunc, BinarySearchFunc, IndexFunc at a row of ints in a block of its own, at whatever function value.
-/
import Derived.Test.YtoeeighfjoplhaaLoC
import Derived.Test.YtoeeighfjoplhaaLoRa
import Derived.Test.YtoeeighfjoplhaaLoPd
import Derived.Test.YtoeeighfjoplhaaLoSt
import Derived.Test.YtoeeighfjoplhaaLoNil
import Derived.Test.YtoeeighfjoplhaaLoBs
import Derived.Test.YtoeeighfjoplhaaLoMn
namespace Go.Proofs.Ytoeeighfjoplhaa
open Go.RowKit
section
variable {w w' : World} {b : Option Nat} {n c k : Nat} {ks : List Int}
theorem RowI.toF (h : RowI w (some k) n c ks) : RowF w w k n (rowf ks) := by
  obtain ⟨h1, h2, h3, cs, hb, hs, hc⟩ := h
  exact ⟨Kp.refl _ w, ⟨c, ⟨cs, hb, hs⟩, ⟨cs, hb, hs⟩⟩, ⟨cs, hb, hc⟩, hb.lt⟩
theorem RowF.toI {F : Nat → Int} (h0 : RowI w (some k) n c ks) (h : RowF w w' k n F) : RowI w' (some k) n c (lst' n F) := by
  obtain ⟨h1, h2, h3, cs, hb, hs, hc⟩ := h0
  obtain ⟨m, ⟨cs0, b0, s0⟩, ⟨cs1, b1, s1⟩⟩ := h.sz
  obtain ⟨cs2, b2, c2⟩ := h.bx
  have e0 : cs0 = cs := by
    have := b0.symm.trans hb
    simpa using this
  have e1 : cs1 = cs2 := by
    have := b1.symm.trans b2
    simpa using this
  subst e0 e1
  refine ⟨(lst'_len n F).symm, h2, h3, cs1, b1, by omega, fun j hj => ?_⟩
  rw [lst'_at F hj]
  exact c2 j hj
theorem Kp.own {S : Nat → Prop} (h : Kp (Only k) w w') (hs : ∀ j, some k = some j → S j) : Kp S w w' := ⟨h.os, h.tape, h.output, h.size, fun i hi hn => h.block i hi fun e => hn (by have e' : i = k := e; rw [e']; exact hs k rfl)⟩
section
variable {g : FuncId} {bd cb : Array Value} {V : Int → Prop} {R : Int → Int → Prop} {cf : Int → Int → Int}
/-- slices.SortFunc puts a row in order. -/
theorem sort_row (hT : Tot R V cf) (h : RowI w b n c ks) (hC : ∀ k, b = some k → Cmp w k g bd cb V cf) (hV : ∀ x ∈ ks, V x) (hd : ks.Nodup) (hn : n < 50) :
    Calls Try.prog 40 #[gsl b n c, .func (.func g) bd cb] w fun e w' => e = .returned (.tuple #[]) ∧ ∃ ks', RowI w' b n c ks' ∧ ks'.Pairwise R ∧ (∀ x, x ∈ ks' ↔ x ∈ ks) ∧ Kp (fun i => b = some i) w w' := by
  cases b with
  | none =>
    obtain ⟨rfl, rfl, rfl⟩ := h.none_nil
    refine sort_nil.mono ?_
    rintro e w' ⟨rfl, rfl⟩
    exact ⟨rfl, [], h, List.Pairwise.nil, fun x => Iff.rfl, Kp.refl _ _⟩
  | some k =>
    have hl := h.1
    have hVF : ∀ j, j < n → V (rowf ks j) := fun j hj => hV _ (mem_rowf.2 ⟨j, by omega, rfl⟩)
    refine (sort_any (cap := c) hT (hC k rfl) h.toF hVF (by rw [hl]; exact nodup_dis hd) hn).mono ?_
    rintro e w' ⟨rfl, F', hF, hP, hS⟩
    refine ⟨rfl, _, hF.toI h, srt_pair hS, fun x => ?_, hF.kp.own fun j e => e⟩
    rw [pm_mem hP x, hl, lst'_rowf]
/-- slices.SortStableFunc puts a row in order. -/
theorem stable_row (hR : Ord R) (h : RowI w b n c ks) (hC : ∀ k, b = some k → Cmp w k g bd cb V cf) (hV : ∀ x ∈ ks, V x) (hS : Says cf R 0 n (rowf ks)) (hn : n ≤ 1000000) :
    Calls Try.prog 54 #[gsl b n c, .func (.func g) bd cb] w fun e w' => e = .returned (.tuple #[]) ∧ ∃ ks', RowI w' b n c ks' ∧ ks'.Pairwise R ∧ (∀ x, x ∈ ks' ↔ x ∈ ks) ∧ Kp (fun i => b = some i) w w' := by
  cases b with
  | none =>
    obtain ⟨rfl, rfl, rfl⟩ := h.none_nil
    refine sortStable_nil.mono ?_
    rintro e w' ⟨rfl, rfl⟩
    exact ⟨rfl, [], h, List.Pairwise.nil, fun x => Iff.rfl, Kp.refl _ _⟩
  | some k =>
    have hl := h.1
    have hVF : ∀ j, j < n → V (rowf ks j) := fun j hj => hV _ (mem_rowf.2 ⟨j, by omega, rfl⟩)
    refine (sortStable_any (cap := c) hR (hC k rfl) h.toF hVF hS hn).mono ?_
    rintro e w' ⟨rfl, F', hF, hP, hS⟩
    refine ⟨rfl, _, hF.toI h, srt_pair hS, fun x => ?_, hF.kp.own fun j e => e⟩
    rw [pm_mem hP x, hl, lst'_rowf]
/-- The first of the least. -/
theorem mnF_first {ld : Int → Int} {F : Nat → Int} (hc : ∀ x y, cf x y < 0 ↔ ld x < ld y) : ∀ k, ∃ t, t ≤ k ∧ mnF cf F k = F t ∧ (∀ s, s ≤ k → ld (F t) ≤ ld (F s)) ∧ ∀ s, s < t → ld (F t) < ld (F s)
  | 0 => ⟨0, Nat.le_refl _, rfl, fun s hs => by rw [show s = 0 by omega]; exact Int.le_refl _, fun s hs => by omega⟩
  | k + 1 => by
    obtain ⟨t, h1, h2, h3, h4⟩ := mnF_first hc k
    have e : mnF cf F (k + 1) = if cf (F (k + 1)) (mnF cf F k) < 0 then F (k + 1) else mnF cf F k := rfl
    by_cases h : cf (F (k + 1)) (mnF cf F k) < 0
    · have hl := (hc _ _).1 h
      rw [h2] at hl
      refine ⟨k + 1, Nat.le_refl _, by rw [e, if_pos h], fun s hs => ?_, fun s hs => ?_⟩
      · by_cases hk : s = k + 1
        · rw [hk]; exact Int.le_refl _
        · have := h3 s (by omega)
          omega
      · have := h3 s (by omega)
        omega
    · have hl : ¬ ld (F (k + 1)) < ld (mnF cf F k) := fun q => h ((hc _ _).2 q)
      rw [h2] at hl
      refine ⟨t, by omega, by rw [e, if_neg h, h2], fun s hs => ?_, h4⟩
      by_cases hk : s = k + 1
      · rw [hk]; omega
      · exact h3 s (by omega)
/-- slices.MinFunc of a row that rises. -/
theorem min_row {ld : Int → Int} (hc : ∀ x y, cf x y < 0 ↔ ld x < ld y) (h : RowI w b n c ks) (hC : ∀ k, b = some k → Cmp w k g bd cb V cf) (hV : ∀ x ∈ ks, V x) (hs : ks.Pairwise (· < ·)) (h0 : ks ≠ []) (hn : n ≤ 1000000) :
    Calls Try.prog 29 #[gsl b n c, .func (.func g) bd cb] w fun e w' => ∃ m, e = .returned (.int .i64 m) ∧ m ∈ ks ∧ (∀ x ∈ ks, ld m ≤ ld x ∧ (ld m = ld x → m ≤ x)) ∧ Kp (fun i => b = some i) w w' := by
  cases b with
  | none =>
    obtain ⟨rfl, rfl, rfl⟩ := h.none_nil
    exact absurd rfl h0
  | some k =>
    have hl := h.1
    have hp := List.length_pos_iff.2 h0
    have hVF : ∀ j, j < n → V (rowf ks j) := fun j hj => hV _ (mem_rowf.2 ⟨j, by omega, rfl⟩)
    refine (min_any (cap := c) (hC k rfl) h.toF hVF (by omega) hn).mono ?_
    rintro e w' ⟨rfl, hF⟩
    obtain ⟨t, h1, h2, h3, h4⟩ := mnF_first (F := rowf ks) hc (n - 1)
    rw [h2]
    refine ⟨_, rfl, mem_rowf.2 ⟨t, by omega, rfl⟩, fun x hx => ?_, hF.kp.own fun j e => e⟩
    obtain ⟨s, hs1, rfl⟩ := mem_rowf.1 hx
    refine ⟨h3 s (by omega), fun e => ?_⟩
    by_cases c1 : s < t
    · have := h4 s c1
      omega
    · rcases Nat.lt_or_eq_of_le (show t ≤ s by omega) with c2 | c2
      · have := pair_srt hs t s (Nat.zero_le _) c2 hs1
        omega
      · rw [c2]
        exact Int.le_refl _
set_option maxRecDepth 100000 in
theorem search_nil {tv : Int} : Calls Try.prog 47 #[.slice none 0 0, .int .i64 tv, .func (.func g) bd cb] w fun e w' => e = .returned (.tuple #[.int .i64 0, .bool false]) ∧ Kp No w w' := by
  go_enter Try.func47, Try.ntmps47
  go_wp2_with fail
  go_loopw [9, 10] (fun u v wr => u = .int .i64 0 ∧ v = .int .i64 0 ∧ wr = w) (fun _ _ _ => 0)
  case atStart => exact ⟨rfl, rfl, rfl⟩
  case round =>
    obtain ⟨rfl, rfl, rfl⟩ := hrel
    go_wp2_with fail
    first
      | (go_ret2; exact ⟨rfl, Kp.refl No _⟩)
      | (go_ret2; exact ⟨rfl, (Kp.refl No _).drew⟩)
/-- slices.BinarySearchFunc in a row in order. -/
theorem search_row (hT : Tot R V cf) (h : RowI w b n c ks) (hC : ∀ k, b = some k → Cmp w k g bd cb V cf) (hV : ∀ x ∈ ks, V x) (hs : ks.Pairwise R) {tv : Int} (hv : V tv) (hn : n ≤ 1000000) :
    Calls Try.prog 47 #[gsl b n c, .int .i64 tv, .func (.func g) bd cb] w fun e w' => ∃ (p : Nat) (q : Bool), e = .returned (.tuple #[.int .i64 (p : Int), .bool q]) ∧ p ≤ n ∧ (∀ t, t < p → R (rowf ks t) tv) ∧ (∀ t, p ≤ t → t < n → ¬ R (rowf ks t) tv) ∧ RowI w' b n c ks ∧ Kp (fun i => b = some i) w w' := by
  cases b with
  | none =>
    obtain ⟨rfl, rfl, rfl⟩ := h.none_nil
    refine search_nil.mono ?_
    rintro e w' ⟨rfl, k'⟩
    exact ⟨0, false, rfl, Nat.le_refl _, fun t ht => by omega, fun t _ ht => by omega, h.kp0 k', ⟨k'.os, k'.tape, k'.output, k'.size, fun i hi _ => k'.block i hi id⟩⟩
  | some k =>
    have hl := h.1
    have hVF : ∀ j, j < n → V (rowf ks j) := fun j hj => hV _ (mem_rowf.2 ⟨j, by omega, rfl⟩)
    have hS := pair_srt hs
    refine (search_any (cap := c) (tv := tv) (hC k rfl) h.toF hVF hv (fun a b hab hb hlt => ?_) hn).mono ?_
    · rcases Nat.lt_or_eq_of_le hab with c1 | c1
      · have h1 := hS a b (Nat.zero_le _) c1 (by omega)
        exact (hT.lt (hVF a (by omega)) hv).2 (hT.ord.tr h1 ((hT.lt (hVF b hb) hv).1 hlt))
      · rw [c1]; exact hlt
    · rintro e w' ⟨p, rfl, h1, h2, h3, hF⟩
      refine ⟨p, _, rfl, h1, fun t ht => (hT.lt (hVF t (by omega)) hv).1 (h2 t ht), fun t h4 h5 hr => ?_, by have := hF.toI h; rwa [hl, lst'_rowf, ← hl] at this, hF.kp.own fun j e => e⟩
      have := (hT.lt (hVF t h5) hv).2 hr
      have := h3 t h4 h5
      omega
end
/-- What a function value of one int answers: in whatever world that has all that there was. -/
structure Pre (w0 : World) (g : FuncId) (bd cb : Array Value) (V : Int → Prop) (f : Int → Bool) : Prop where
  enters : ∀ args w, (callFunc g args).run Try.prog w = .ok (.enter g args) w
  says : ∀ W, Kp No w0 W → ∀ x, V x → Calls Try.prog g (bd.push (.int .i64 x) ++ cb) W fun e w' => e = .returned (.bool (f x)) ∧ Kp No W w'
set_option maxRecDepth 100000 in
set_option maxHeartbeats 4000000 in
/-- slices.IndexFunc of a row. -/
theorem index_row {g : FuncId} {bd cb : Array Value} {V : Int → Prop} {f : Int → Bool} (h : RowI w b n c ks) (hC : Pre w g bd cb V f) (hV : ∀ x ∈ ks, V x) (hn : n ≤ 1000000) :
    Calls Try.prog 45 #[gsl b n c, .func (.func g) bd cb] w fun e w' => Kp No w w' ∧ ((∃ i, i < n ∧ e = .returned (.int .i64 (i : Int)) ∧ f (rowf ks i) = true ∧ ∀ j, j < i → f (rowf ks j) = false) ∨ (e = .returned (.int .i64 (-1)) ∧ ∀ j, j < n → f (rowf ks j) = false)) := by
  have hl := h.1
  have HCL := hid (fun (W : World) (k : Kp No w W) (j : Nat) (hj : j < n) => show ∃ kk, b = some kk ∧ W.cell? ⟨kk, j, none⟩ = some (.int .i64 (rowf ks j)) from by
    cases b with
    | none => obtain ⟨rfl, rfl, rfl⟩ := h.none_nil; omega
    | some kk => exact ⟨kk, rfl, (h.kp0 k).cell (by omega)⟩)
  have HC := hid hC
  have HV := hid (fun j (hj : j < n) => hV (rowf ks j) (mem_rowf.2 ⟨j, by omega, rfl⟩))
  have mixed : Try.prog.follows .mixedOrders = true := by kernel_rfl
  unfold gsl
  clear h hC hV hl
  go_enter Try.func45, Try.ntmps45
  go_wp2_with fail
  go_loopw [8] (fun u wr => ∃ i : Nat, u = .int .i64 (i : Int) ∧ i ≤ n ∧ Hid (Kp No w wr) ∧ Hid (∀ j, j < i → f (rowf ks j) = false)) (fun u _ => n - (vNum u).toNat)
  case atStart => exact ⟨0, rfl, Nat.zero_le _, hid (Kp.refl _ _), hid fun j hj => by omega⟩
  case round =>
    obtain ⟨i, rfl, hin, HK, HF⟩ := hrel
    have wi := wrapI (x := (i : Int) + 1) (by unfold I64; omega)
    by_cases hlt : i < n
    · have glt : (i : Int) < (n : Int) := by omega
      obtain ⟨kk, rfl, c0⟩ := HCL.out _ HK.out i hlt
      simp only [ga, Option.map_some] at *
      have eg := HC.out.enters
      have hc := HC.out.says _ HK.out _ (HV.out i hlt)
      cases hf : f (rowf ks i) with
      | true =>
        rw [hf] at hc
        go_wp2_with (go_at_fn g; refine hc.mono ?_; rintro e w' ⟨rfl, k'⟩)
        (try simp only [Exit.inBlock, Exit.then])
        first | go_ret | skip
        exact ⟨HK.out.trans k', .inl ⟨i, hlt, rfl, hf, HF.out⟩⟩
      | false =>
        rw [hf] at hc
        go_wp2_with (go_at_fn g; refine hc.mono ?_; rintro e w' ⟨rfl, k'⟩)
        go_roundw
        case rel => exact ⟨i + 1, by go_num, hlt, hid (HK.out.trans k'), hid fun j hj => by
          by_cases e : j = i
          · rw [e]; exact hf
          · exact HF.out j (by omega)⟩
        case measure => simp [vNum] <;> omega
    · have glt : ¬ (i : Int) < (n : Int) := by omega
      go_wp2_with fail
      go_ret
      exact ⟨HK.out, .inr ⟨rfl, fun j hj => HF.out j (by omega)⟩⟩
end
end Go.Proofs.Ytoeeighfjoplhaa
