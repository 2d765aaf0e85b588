/-
  Contracts: span, read, Parse, Remap.
-/
import Derived.Test.YtjmnclneopofhaaDoorMaskRd
import Derived.Test.YtjmnclneopofhaaDoorMaskE
namespace Go.Proofs.YtjmnclneopofhaaDoor
open Go.RowKit Go.Shelf

theorem span_ok {t a b : List UInt8} {c : Bool} {v1 v2 : Int} (hc : Lib.cut t [45] = (a, b, c)) (h1 : Lib.atoiAll a = .ok v1) (h2 : Lib.atoiAll (if c then b else a) = .ok v2) : Tells t (spv v1 v2) := by
  refine ⟨fun f l hfl hl ht => ?_, fun ht => ?_⟩
  rotate_left
  · subst ht
    rw [show Lib.cut [45] [45] = ([], [], true) by decide] at hc
    injection hc with e1 _
    subst e1
    cases h1
  subst ht
  rw [cut_rt f l hfl hl] at hc
  split at hc
  · rename_i he
    subst he
    injection hc with e1 e2
    injection e2 with e2 e3
    subst e1 e2 e3
    rw [dec_ok f hl] at h1
    injection h1 with h1
    rw [if_neg (by decide), dec_ok f hl] at h2
    injection h2 with h2
    subst h1 h2
    rfl
  · injection hc with e1 e2
    injection e2 with e2 e3
    subst e1 e2 e3
    rw [dec_ok f (by omega)] at h1
    injection h1 with h1
    rw [if_pos rfl, dec_ok l hl] at h2
    injection h2 with h2
    subst h1 h2
    rfl
theorem span_bad {t a b : List UInt8} {c : Bool} (hc : Lib.cut t [45] = (a, b, c)) (h : (∀ n, Lib.atoiAll a ≠ .ok n) ∨ ∀ n, Lib.atoiAll (if c then b else a) ≠ .ok n) : Tells t 0 := by
  refine ⟨fun f l hfl hl ht => ?_, fun _ => rfl⟩
  subst ht
  rw [cut_rt f l hfl hl] at hc
  split at hc
  · injection hc with e1 e2
    injection e2 with e2 e3
    subst e1 e2 e3
    rcases h with h | h
    · exact absurd (dec_ok f (by omega)) (h _)
    · exact absurd (by rw [if_neg (by decide)]; exact dec_ok f (by omega)) (h (f : Int))
  · injection hc with e1 e2
    injection e2 with e2 e3
    subst e1 e2 e3
    rcases h with h | h
    · exact absurd (dec_ok f (by omega)) (h _)
    · exact absurd (by rw [if_pos rfl]; exact dec_ok l hl) (h (l : Int))

theorem span_any (t : List UInt8) (w : World) (ht : t.length < 4294967281) (E : Env w) :
    Calls Tryd.prog 41 #[.string (str t)] w fun e w' => ∃ r, e = .returned (.int .u64 ((r : Nat) : Int)) ∧ U64 r ∧ Tells t r ∧ Kp No w w' := by
  have HE := hid E
  have hcl := cut_len t 45
  obtain ⟨a, b, c, hc⟩ : ∃ a b c, Lib.cut t [45] = (a, b, c) := ⟨_, _, _, rfl⟩
  rw [hc] at hcl
  obtain ⟨hl1, hl2, _⟩ := hcl
  have HT := hid hc
  clear E hc
  dsimp only at hl1 hl2
  go_enter Tryd.func41, Tryd.ntmps41
  go_wp2_with fail
  refine (cut_any t 45 _ ht HE.out).mono ?_
  rw [HT.out]
  rintro e w1 ⟨rfl, k1⟩
  have K1 := hid k1
  have E1 := hid (HE.out.kp0 k1)
  clear k1 HE
  cases c with
  | true =>
    go_wp2_with fail
    refine (atoi_any a _ (by omega) E1.out).mono ?_
    rintro e w2 ⟨v1, ev1, rfl, ht1, k2⟩
    have K2 := hid (K1.out.trans k2)
    have E2 := hid (E1.out.kp0 k2)
    have T1 := hid ht1
    clear k2 ht1 K1 E1
    go_wp2_with fail
    refine (atoi_any b _ (by omega) E2.out).mono ?_
    rintro e w3 ⟨v2, ev2, rfl, ht2, k3⟩
    have K3 := hid (K2.out.trans k3)
    have T2 := hid ht2
    clear k3 ht2 K2 E2
    rcases T1.out with ⟨o1, rfl⟩ | ⟨n1, tp1, p1, rfl⟩
    · rcases T2.out with ⟨o2, rfl⟩ | ⟨n2, tp2, p2, rfl⟩
      · have O1 := hid o1
        have O2 := hid o2
        have e1 := not_bits (wth_U64 (up_U64 v2) v2) (up_U64 v1)
        rw [show wth (up v2) v2 &&& (18446744073709551615 - up v1) = spv v1 v2 from rfl] at e1
        clear o1 o2
        go_wp2_with fail
        refine (up_any v2 _).mono ?_
        rintro e w' ⟨rfl, rfl⟩
        go_wp2_with fail
        refine (with_any (up v2) v2 _ (up_U64 v2)).mono ?_
        rintro e w' ⟨rfl, rfl⟩
        go_wp2_with fail
        refine (up_any v1 _).mono ?_
        rintro e w' ⟨rfl, rfl⟩
        go_wp2_with fail
        go_ret
        exact ⟨spv v1 v2, rfl, spv_U64 _ _, span_ok HT.out O1.out O2.out, K3.out⟩
      · have HN := hid n2
        clear n2 o1
        go_wp2_with fail
        go_ret
        exact ⟨0, rfl, U64.zero, span_bad HT.out (.inr HN.out), K3.out⟩
    · have HN := hid n1
      clear n1
      go_wp2_with fail
      go_ret
      exact ⟨0, rfl, U64.zero, span_bad HT.out (.inl HN.out), K3.out⟩
  | false =>
    go_wp2_with fail
    refine (atoi_any a _ (by omega) E1.out).mono ?_
    rintro e w2 ⟨v1, ev1, rfl, ht1, k2⟩
    have K2 := hid (K1.out.trans k2)
    have E2 := hid (E1.out.kp0 k2)
    have T1 := hid ht1
    clear k2 ht1 K1 E1
    go_wp2_with fail
    refine (atoi_any a _ (by omega) E2.out).mono ?_
    rintro e w3 ⟨v2, ev2, rfl, ht2, k3⟩
    have K3 := hid (K2.out.trans k3)
    have T2 := hid ht2
    clear k3 ht2 K2 E2
    rcases T1.out with ⟨o1, rfl⟩ | ⟨n1, tp1, p1, rfl⟩
    · rcases T2.out with ⟨o2, rfl⟩ | ⟨n2, tp2, p2, rfl⟩
      · have O1 := hid o1
        have O2 := hid o2
        have e1 := not_bits (wth_U64 (up_U64 v2) v2) (up_U64 v1)
        rw [show wth (up v2) v2 &&& (18446744073709551615 - up v1) = spv v1 v2 from rfl] at e1
        clear o1 o2
        go_wp2_with fail
        refine (up_any v2 _).mono ?_
        rintro e w' ⟨rfl, rfl⟩
        go_wp2_with fail
        refine (with_any (up v2) v2 _ (up_U64 v2)).mono ?_
        rintro e w' ⟨rfl, rfl⟩
        go_wp2_with fail
        refine (up_any v1 _).mono ?_
        rintro e w' ⟨rfl, rfl⟩
        go_wp2_with fail
        go_ret
        exact ⟨spv v1 v2, rfl, spv_U64 _ _, span_ok HT.out O1.out O2.out, K3.out⟩
      · have HN := hid n2
        clear n2 o1
        go_wp2_with fail
        go_ret
        exact ⟨0, rfl, U64.zero, span_bad HT.out (.inr HN.out), K3.out⟩
    · have HN := hid n1
      clear n1
      go_wp2_with fail
      go_ret
      exact ⟨0, rfl, U64.zero, span_bad HT.out (.inl HN.out), K3.out⟩

/-- How much there is still to read. -/
def mz (more rest : Value) : Nat := match more, rest with
  | .bool true, .string s => s.size + 1
  | _, _ => 0

theorem read_any (t : List UInt8) (w : World) (ht : t.length < 4294967281) (E : Env w) :
    Calls Tryd.prog 34 #[.string (str t)] w fun e w' => ∃ r, e = .returned (.int .u64 ((r : Nat) : Int)) ∧ U64 r ∧ Reads t r ∧ Kp No w w' := by
  have HE := hid E
  have hcl := cut_len t 44
  have hp := Part.start t
  obtain ⟨a, b, c, hc⟩ : ∃ a b c, Lib.cut t [44] = (a, b, c) := ⟨_, _, _, rfl⟩
  rw [hc] at hcl hp
  obtain ⟨hl1, hl2, _⟩ := hcl
  have HP := hid hp
  have HT := hid hc
  clear E hc hp
  dsimp only at hl1 hl2
  go_enter Tryd.func34, Tryd.ntmps34
  go_wp2_with fail
  refine (cut_any t 44 _ ht HE.out).mono ?_
  rw [HT.out]
  rintro e w1 ⟨rfl, k1⟩
  have K1 := hid k1
  clear k1 HT
  go_wp2_with fail
  go_loopw [3, 4, 5, 6] (fun s run rest more w' => ∃ (x : Nat) (a b : List UInt8) (c : Bool), s = .int .u64 (x : Int) ∧ run = .string (str a) ∧ rest = .string (str b) ∧ more = .bool c ∧ a.length ≤ t.length ∧ b.length ≤ t.length ∧ U64 x ∧ Hid (Part t x a b c ∧ Kp No w w')) (fun _ _ rest more _ => mz more rest)
  case atStart => exact ⟨0, a, b, c, rfl, rfl, rfl, rfl, hl1, hl2, U64.zero, hid ⟨HP.out, K1.out⟩⟩
  case round =>
    clear HP K1 hl1 hl2
    obtain ⟨x, a, b, c, rfl, rfl, rfl, rfl, hl1, hl2, hx, HH⟩ := hrel
    have E2 := hid (HE.out.kp0 HH.out.2)
    cases c with
    | true =>
      go_wp2_with fail
      refine (span_any a _ (by omega) E2.out).mono ?_
      rintro e w2 ⟨r, rfl, hr, htl, k2⟩
      have HTL := hid htl
      have K2 := hid (HH.out.2.trans k2)
      have E3 := hid (E2.out.kp0 k2)
      have eo := or_bits hx hr
      have hxr := hx.or hr
      obtain ⟨y, hy⟩ : ∃ y, x ||| r = y := ⟨_, rfl⟩
      rw [hy] at eo hxr
      have HY := hid hy
      have hcl := cut_len b 44
      obtain ⟨a', b', c', hc⟩ : ∃ a' b' c', Lib.cut b [44] = (a', b', c') := ⟨_, _, _, rfl⟩
      rw [hc] at hcl
      obtain ⟨hl3, hl4, hl5⟩ := hcl
      have HT := hid hc
      have HL := hid hl5
      clear hc htl k2 E2 hy hl5
      dsimp only at hl3 hl4
      go_wp2_with fail
      refine (cut_any b 44 _ (by omega) E3.out).mono ?_
      rw [HT.out]
      rintro e w3 ⟨rfl, k3⟩
      have K3 := hid (K2.out.trans k3)
      clear k3 K2 E3
      go_wp2_with fail
      go_roundw
      case rel =>
        have hp := HH.out.1.step HTL.out
        rw [HT.out, HY.out] at hp
        exact ⟨y, a', b', c', rfl, rfl, rfl, rfl, by omega, by omega, hxr, hid ⟨hp, K3.out⟩⟩
      case measure =>
        have h5 := HL.out
        cases c' with
        | true => have h6 := h5 rfl; simp only [mz, str_size]; exact Nat.succ_lt_succ h6
        | false => simp only [mz, str_size]; exact Nat.succ_pos _
    | false =>
      go_wp2_with fail
      refine (span_any a _ (by omega) E2.out).mono ?_
      rintro e w2 ⟨r, rfl, hr, htl, k2⟩
      have HTL := hid htl
      have K2 := hid (HH.out.2.trans k2)
      have eo := or_bits hx hr
      have hxr := hx.or hr
      obtain ⟨y, hy⟩ : ∃ y, x ||| r = y := ⟨_, rfl⟩
      rw [hy] at eo hxr
      have HY := hid hy
      clear htl k2 E2 hy
      go_wp2_with fail
      go_ret
      exact ⟨y, rfl, hxr, by rw [← HY.out]; exact HH.out.1.reads HTL.out, K2.out⟩

/-- What Parse tells. -/
def Parsed (t : List UInt8) (r : Nat) (k : Int) : Prop := (U64 r ∧ txt r = t ∧ (∀ s, U64 s → txt s = t → s = r) ∧ k = 0) ∨ ((∀ s, U64 s → txt s ≠ t) ∧ r = 0 ∧ k = 5)

theorem parse_any (t : List UInt8) (w : World) (ht : t.length < 4294967281) (E : Env w) :
    Calls Tryd.prog 25 #[.string (str t)] w fun e w' => ∃ r k, e = .returned (.tuple #[.int .u64 ((r : Nat) : Int), .int .i64 k]) ∧ Parsed t r k ∧ Kp No w w' := by
  have HE := hid E
  clear E
  go_enter Tryd.func25, Tryd.ntmps25
  go_wp2_with fail
  refine (read_any t _ ht HE.out).mono ?_
  rintro e w1 ⟨r, rfl, hr, hrd, k1⟩
  have HR := hid hrd
  have K1 := hid k1
  clear hrd k1
  go_wp2_with fail
  refine (text_any r _ hr).mono ?_
  rintro e w2 ⟨rfl, k2⟩
  have K2 := hid (K1.out.trans k2)
  clear k2 K1
  by_cases he : txt r = t
  · rw [he]
    have HQ := hid he
    clear he
    go_wp2_with fail
    go_ret2
    exact ⟨r, 0, rfl, .inl ⟨hr, HQ.out, fun s hs h => (HR.out s hs h.symm).symm, rfl⟩, K2.out⟩
  · have hb : ((str (txt r)).toList == (str t).toList) = false := by rw [str_beq]; exact decide_eq_false he
    have HQ := hid he
    clear he
    go_wp2_with fail
    go_ret2
    exact ⟨0, 5, rfl, .inr ⟨fun s hs h => HQ.out (by rw [HR.out s hs h.symm]; exact h), rfl, rfl⟩, K2.out⟩

/-- What Remap tells. -/
def rmS (s o : Nat) (op : Bool) : Nat := if s &&& o ≠ 0 then s &&& o else if op = true ∧ o ≠ 0 then o else 0
def rmE (s o : Nat) (op : Bool) : Int := if s &&& o ≠ 0 then 0 else if op = true ∧ o ≠ 0 then 0 else 13
theorem rmS_U64 {s o : Nat} (hs : U64 s) (ho : U64 o) (op : Bool) : U64 (rmS s o op) := by
  unfold rmS
  split
  · exact hs.and
  · split
    · exact ho
    · exact U64.zero

theorem remap_any (s o : Nat) (op : Bool) (w : World) (hs : U64 s) (ho : U64 o) :
    Calls Tryd.prog 27 #[.int .u64 (s : Int), .int .u64 (o : Int), .bool op] w fun e w' => e = .returned (.tuple #[.int .u64 ((rmS s o op : Nat) : Int), .int .i64 (rmE s o op)]) ∧ w = w' := by
  have e1 := and_bits hs ho
  obtain ⟨x, hx⟩ : ∃ x, s &&& o = x := ⟨_, rfl⟩
  rw [hx] at e1
  by_cases h0 : x = 0
  · have hxn : ((x : Int) != 0) = false := by simp [h0]
    by_cases ho0 : o = 0
    · have hon : ((o : Int) != 0) = false := by simp [ho0]
      have hS : rmS s o op = 0 := by unfold rmS; rw [hx]; simp [h0, ho0]
      have hE : rmE s o op = 13 := by unfold rmE; rw [hx]; simp [h0, ho0]
      rw [hS, hE]
      clear hS hE h0 ho0 hx
      cases op
      all_goals
        go_enter Tryd.func27, Tryd.ntmps27
        go_wp2_with fail
        go_ret2
        exact ⟨rfl, rfl⟩
    · have hon : ((o : Int) != 0) = true := by rw [bne_iff_ne]; omega
      cases op with
      | true =>
        have hS : rmS s o true = o := by unfold rmS; rw [hx]; simp [h0, ho0]
        have hE : rmE s o true = 0 := by unfold rmE; rw [hx]; simp [h0, ho0]
        rw [hS, hE]
        clear hS hE h0 ho0 hx
        go_enter Tryd.func27, Tryd.ntmps27
        go_wp2_with fail
        go_ret2
        exact ⟨rfl, rfl⟩
      | false =>
        have hS : rmS s o false = 0 := by unfold rmS; rw [hx]; simp [h0]
        have hE : rmE s o false = 13 := by unfold rmE; rw [hx]; simp [h0]
        rw [hS, hE]
        clear hS hE h0 ho0 hx
        go_enter Tryd.func27, Tryd.ntmps27
        go_wp2_with fail
        go_ret2
        exact ⟨rfl, rfl⟩
  · have hS : rmS s o op = x := by unfold rmS; rw [hx]; simp [h0]
    have hE : rmE s o op = 0 := by unfold rmE; rw [hx]; simp [h0]
    rw [hS, hE]
    have hxn : ((x : Int) != 0) = true := by rw [bne_iff_ne]; omega
    clear h0 hS hE hx
    go_enter Tryd.func27, Tryd.ntmps27
    go_wp2_with fail
    go_ret2
    exact ⟨rfl, rfl⟩

/-- The chapter's set, and its text. -/
def exS : Nat := 9223372036854775847
def exT : List UInt8 := [48, 45, 50, 44, 53, 44, 54, 51]
theorem exS_U64 : U64 exS := by unfold U64 exS; omega
theorem exS_made : wth (wth (up 3) 5) 63 = exS := by decide
theorem exS_all : al exS = [0, 1, 2, 5, 63] := by decide
theorem exS_txt : txt exS = exT := by
  have h1 : fst exS = [0, 5, 63] := by decide
  unfold txt
  rw [if_neg (by decide)]
  unfold txl
  rw [h1]
  have h2 : lst exS 0 = 2 := by decide
  have h3 : lst exS 5 = 5 := by decide
  have h4 : lst exS 63 = 63 := by decide
  show Lib.join [rt 0 (lst exS 0), rt 5 (lst exS 5), rt 63 (lst exS 63)] [44] = _
  rw [h2, h3, h4]
  unfold rt
  rw [if_neg (by decide), if_pos rfl, if_pos rfl, dec_dg _ (by decide), dec_dg _ (by decide), dec_dg _ (by decide), dec_dg _ (by decide)]
  decide

theorem awake_any (w : World) (E : Env w) : Calls Tryd.prog 10 #[] w fun e w' => e = .returned (.bool true) ∧ Kp No w w' := by
  have HE := hid E
  clear E
  go_enter Tryd.func10, Tryd.ntmps10
  go_wp2_with fail
  refine (up_any 3 _).mono ?_
  rintro e w' ⟨rfl, rfl⟩
  go_wp2_with fail
  refine (with_any (up 3) 5 _ (up_U64 _)).mono ?_
  rintro e w' ⟨rfl, rfl⟩
  go_wp2_with fail
  refine (with_any (wth (up 3) 5) 63 _ (wth_U64 (up_U64 _) _)).mono ?_
  rw [exS_made]
  rintro e w' ⟨rfl, rfl⟩
  go_wp2_with fail
  refine (parse_any exT _ (by decide) HE.out).mono ?_
  rintro e w1 ⟨r, k, rfl, hp, k1⟩
  have hrk : r = exS ∧ k = 0 := by
    rcases hp with ⟨_, _, h, h2⟩ | ⟨h, _⟩
    · exact ⟨(h exS exS_U64 exS_txt).symm, h2⟩
    · exact absurd exS_txt (h exS exS_U64)
  obtain ⟨rfl, rfl⟩ := hrk
  have K1 := hid k1
  clear k1 hp
  go_wp2_with fail
  refine (text_any exS _ exS_U64).mono ?_
  rw [exS_txt]
  rintro e w2 ⟨rfl, k2⟩
  have K2 := hid (K1.out.trans k2)
  clear k2 K1
  have hb : (str exT).toList = [48, 45, 50, 44, 53, 44, 54, 51] := str_toList exT
  go_wp2_with fail
  refine (len_any exS _ exS_U64).mono ?_
  rw [exS_all]
  rintro e w3 ⟨rfl, k3⟩
  have K3 := hid (K2.out.trans k3)
  clear k3 K2
  go_wp2_with fail
  go_ret
  exact ⟨rfl, K3.out⟩
end Go.Proofs.YtjmnclneopofhaaDoor
