/-
  Contracts of the laws' do (but for Arm), walked.
-/
import Derived.Test.YtndbkpmfimpgnaaDOps
import Derived.Test.YtndbkpmfimpgnaaDN
namespace Go.Proofs.Ytndbkpmfimpgnaa
open Go.RowKit

theorem off_on {s : Ds} (h : s.armed = false) : off s = false := by unfold off; rw [h]; rfl
theorem has_or (s : Ds) (i : Int) : has s i = false ∨ ∃ j : Nat, i = (j : Int) ∧ j < s.k.length := by
  cases h : has s i with
  | false => exact .inl rfl
  | true => exact .inr (has_nat h)

/-- What a write of a disk that is on leaves. -/
def WrPost (g b m : Nat) (s : Ds) (i : Int) (w : World) (e : Ending) (w' : World) : Prop :=
  (∃ x, e = .returned (.int .i64 x)) ∧ Kp (fun k => k = g ∨ k = m) w w' ∧ ∃ s', Dk w' g b m s' ∧ s'.k = s.k ∧ s'.armed = s.armed ∧ ∀ j, j ≠ i → s'.c j = s.c j
/-- What anything that is done, of a disk that is not armed, leaves. -/
def DoPost (g b m : Nat) (s : Ds) (w : World) (e : Ending) (w' : World) : Prop :=
  (∃ v1 v2, e = .returned (.tuple #[v1, v2])) ∧ Kp (DB g b m) w w' ∧ ∃ s', Dk w' g b m s' ∧ s'.armed = false ∧ s'.k.length = s.k.length

section
variable {w w' : World} {g b m : Nat} {s : Ds} {P : Nat → Prop}
theorem write_any (h : Dk w g b m s) (ho : s.armed = false) {i : Int} {v : Value} {xs : List Int} (hv : Byt w P v xs) (hP : ¬ P g) : Calls Try.prog 15 #[.pointer (some ⟨g, 0, none⟩), .int .i64 i, v] w (WrPost g b m s i w) := by
  rcases has_or s i with hn | ⟨j, rfl, hj⟩
  · exact (write_no h (off_on ho) hn v).mono fun e w' ⟨he, k, d⟩ => ⟨⟨_, he⟩, k.mono fun _ _ e => .inl e, _, d, rfl, rfl, fun _ _ => rfl⟩
  · rcases Nat.lt_or_ge 64 xs.length with hl | hl
    · exact (write_long h (off_on ho) (by unfold has; simp [hj]) hv hl).mono fun e w' ⟨he, k, d⟩ => ⟨⟨_, he⟩, k.mono fun _ _ e => .inl e, _, d, rfl, rfl, fun _ _ => rfl⟩
    · exact (write_is h (off_on ho) hj hv hP hl).mono fun e w' ⟨he, k, d⟩ => ⟨⟨_, he⟩, k, _, d, rfl, rfl, fun x hx => if_neg hx⟩

def RdPost (w : World) (e : Ending) (w' : World) : Prop := (∃ v1 x, e = .returned (.tuple #[v1, .int .i64 x])) ∧ Kp No w w'
theorem read_any (h : Dk w g b m s) (ho : s.armed = false) (i : Int) : Calls Try.prog 11 #[.pointer (some ⟨g, 0, none⟩), .int .i64 i] w (RdPost w) := by
  rcases has_or s i with hn | ⟨j, rfl, hj⟩
  · exact (read_no h hn).mono fun e w' ⟨he, k⟩ => by subst k; exact ⟨⟨_, _, he⟩, Kp.refl _ _⟩
  · exact (read_is h hj (off_on ho)).mono fun e w' ⟨v, he, _, k⟩ => ⟨⟨_, _, he⟩, k⟩
def RtPost (g b m : Nat) (s : Ds) (w : World) (e : Ending) (w' : World) : Prop := (∃ v, e = .returned v) ∧ Kp (Only b) w w' ∧ ∃ s', Dk w' g b m s' ∧ s'.armed = s.armed ∧ s'.k.length = s.k.length
theorem rot_any (h : Dk w g b m s) (i t : Int) : Calls Try.prog 17 #[.pointer (some ⟨g, 0, none⟩), .int .i64 i, .int .i64 t] w (RtPost g b m s w) := by
  by_cases hn : has s i = false ∨ t < 0 ∨ 512 ≤ t
  · exact (rot_no h hn).mono fun e w' ⟨he, k⟩ => by subst k; exact ⟨he, Kp.refl _ _, s, h, rfl, rfl⟩
  · rcases has_or s i with hh | ⟨j, rfl, hj⟩
    · exact absurd (.inl hh) hn
    · obtain ⟨r, rfl⟩ : ∃ r : Nat, t = (r : Int) := ⟨t.toNat, by omega⟩
      exact (rot_is h hj (t := r) (by omega)).mono fun e w' ⟨he, k, d⟩ => ⟨he, k, _, d, rfl, by simp [rotted]⟩
theorem crashed_len (s : Ds) (keep : List Bool) : (crashed s keep).k.length = s.k.length := by
  show (kept (dropS s keep (waits s).length)).length = s.k.length
  rw [kept_len]
  rfl

set_option maxHeartbeats 1000000 in
set_option maxRecDepth 100000 in
theorem do_any (h : Dk w g b m s) (ho : s.armed = false) {d i n : Int} {bv kv : Value} {bl : List Int} {kl : List Bool} (hd : d ≠ 3) (hb : Byt w P bv bl) (hk : Sl Value.bool false w P kv kl) (hPg : ¬ P g) (hPm : ¬ P m) :
    Calls Try.prog 21 #[.pointer (some ⟨g, 0, none⟩), .agg #[.int .i64 d, .int .i64 i, .int .i64 n, bv, kv]] w (DoPost g b m s w) := by
  have k0 := (Kp.refl No w).alloc (.cells #[.int .i64 d, .int .i64 i, .int .i64 n, bv, kv] 42)
  have H0 := hid (h.kp0 k0)
  have B0 := hid (hb.kp k0 fun _ _ h => h)
  have S0 := hid (hk.kp k0 fun _ _ _ h => h)
  have K0 := hid k0
  have HO := hid ho
  obtain ⟨A, c, rfl, hc, hm, _⟩ := hb
  obtain ⟨A2, c2, rfl, hc2, hm2, _⟩ := hk
  unfold maxLen at hm hm2
  clear h k0 ho
  have n3 : (d == 3) = false := by simp [hd]
  by_cases d1 : d = 1
  · subst d1
    go_enter Try.func21, Try.ntmps21
    go_wp2_with fail
    refine (write_any H0.out HO.out B0.out hPg).mono ?_
    rintro e w2 ⟨⟨x, rfl⟩, k2, s', D2, e1, e2, _⟩
    have F := hid (show DoPost g b m s w (.returned (.tuple #[.slice none 0 0, .int .i64 x])) w2 from ⟨⟨_, _, rfl⟩, K0.out.all.step k2 fun i _ e => e.elim .inl fun e => .inr (.inr e), s', D2, e2.trans HO.out, by rw [e1]⟩)
    clear D2 e1 e2 k2
    go_wp2
    go_ret2
    exact F.out
  · have n1 : (d == 1) = false := by simp [d1]
    by_cases d2 : d = 2
    · subst d2
      go_enter Try.func21, Try.ntmps21
      go_wp2_with fail
      refine (flush_is H0.out (off_on HO.out)).mono ?_
      rintro e w2 ⟨rfl, k2, D2⟩
      have F := hid (show DoPost g b m s w (.returned (.tuple #[.slice none 0 0, .int .i64 0])) w2 from ⟨⟨_, _, rfl⟩, K0.out.all.trans k2, _, D2, HO.out, kept_len (calld s)⟩)
      clear D2 k2
      go_wp2
      go_ret2
      exact F.out
    · have n2 : (d == 2) = false := by simp [d2]
      by_cases d4 : d = 4
      · subst d4
        go_enter Try.func21, Try.ntmps21
        go_wp2_with fail
        refine (crash_any H0.out S0.out hPm).mono ?_
        rintro e w2 ⟨⟨v, rfl⟩, k2, D2⟩
        have F := hid (show DoPost g b m s w (.returned (.tuple #[.slice none 0 0, .int .i64 0])) w2 from ⟨⟨_, _, rfl⟩, K0.out.all.trans k2, _, D2, rfl, crashed_len s kl⟩)
        clear D2 k2
        go_wp2
        go_ret2
        exact F.out
      · have n4 : (d == 4) = false := by simp [d4]
        by_cases d5 : d = 5
        · subst d5
          go_enter Try.func21, Try.ntmps21
          go_wp2_with fail
          refine (rot_any H0.out i n).mono ?_
          rintro e w2 ⟨⟨v, rfl⟩, k2, s', D2, e1, e2⟩
          have F := hid (show DoPost g b m s w (.returned (.tuple #[.slice none 0 0, .int .i64 0])) w2 from ⟨⟨_, _, rfl⟩, K0.out.all.trans (k2.mono fun i _ e => .inr (.inl e)), s', D2, e1.trans HO.out, e2⟩)
          clear D2 k2 e1 e2
          go_wp2
          go_ret2
          exact F.out
        · have n5 : (d == 5) = false := by simp [d5]
          clear d1 d2 d4 d5 hd
          go_enter Try.func21, Try.ntmps21
          go_wp2_with fail
          refine (read_any H0.out HO.out i).mono ?_
          rintro e w2 ⟨⟨v, x, rfl⟩, k2⟩
          have F := hid (show DoPost g b m s w (.returned (.tuple #[v, .int .i64 x])) w2 from ⟨⟨_, _, rfl⟩, K0.out.all.trans k2.all, s, H0.out.kp0 k2, HO.out, rfl⟩)
          clear k2
          go_wp2
          go_ret2
          exact F.out

/-- A disk of the call's own that is not armed, of twenty sectors. -/
def WkPost (w : World) (e : Ending) (w' : World) : Prop := ∃ g b m s, e = .returned (.pointer (some ⟨g, 0, none⟩)) ∧ Dk w' g b m s ∧ s.armed = false ∧ s.k.length = 20 ∧ w.heap.size ≤ g ∧ w.heap.size ≤ b ∧ w.heap.size ≤ m ∧ Kp No w w'
set_option maxHeartbeats 1000000 in
set_option maxRecDepth 100000 in
theorem walked_any {v : Value} {os : List Dop} (h : Ops w P v os) : Calls Try.prog 9 #[v] w (WkPost w) := by
  have hb := h.below
  clear h
  obtain ⟨A, c, rfl, hc, hm, _⟩ := hb.rw
  unfold maxLen at hm
  obtain ⟨n, hn⟩ : ∃ n, os.length = n := ⟨_, rfl⟩
  have HN := hid hn
  have HO := hid hb
  rw [hn] at hc ⊢
  rw [hn] at HO
  clear hn hb
  go_enter Try.func9, Try.ntmps9
  go_wp2_with fail
  refine (newd_any 20 w).mono ?_
  rintro e w1 ⟨g, b, m, rfl, D1, k1, hg, hb, hmm⟩
  have D1 := hid D1
  have K1 := hid k1
  clear k1
  go_wp2
  go_loopw [4] (fun i wr => ∃ k : Nat, k ≤ n ∧ i = .int .i64 (k : Int) ∧ Hid (∃ s, Dk wr g b m s ∧ s.armed = false ∧ s.k.length = 20) ∧ Hid (Kp No w wr)) (fun i _ => n - (intOf i).toNat)
  case atStart => exact ⟨0, Nat.zero_le _, rfl, hid ⟨_, D1.out, rfl, (by show (List.replicate (hold 20 512).toNat zs).length = 20; rw [List.length_replicate]; decide)⟩, K1⟩
  case round =>
    obtain ⟨k, hk, rfl, HD, KP⟩ := hrel
    by_cases hkn : k < n
    · have HW := HO.out.kp KP.out fun _ _ h => h
      obtain ⟨b0, o0, rfl, ok, hcell⟩ := HW.at' (k := k) (by rw [HN.out]; exact hkn)
      generalize os.getD k dop0 = x at ok hcell
      have c0 := hcell 0 (by omega)
      have c1 := hcell 1 (by omega)
      have c2 := hcell 2 (by omega)
      have c3 := hcell 3 (by omega)
      have c4 := hcell 4 (by omega)
      simp only [dc, Nat.add_zero] at c0 c1 c2 c3 c4
      have OK := hid ok
      obtain ⟨xd, xi, xn, xb, xbl, xk, xkl⟩ := x
      simp only at c0 c1 c2 c3 c4
      have hsum := wrapI (x := (k : Int) + 1) (by unfold I64; omega)
      clear hcell ok HO HN HW
      by_cases h3 : xd = 3
      · have n3 : (xd == 3) = true := by simp [h3]
        have n3' : (xd != 3) = false := by simp [h3]
        clear h3
        go_wp2
        go_roundw
        case rel => exact ⟨k + 1, by omega, by go_num, HD, KP⟩
        case measure => simp [intOf]; omega
      · have n3 : (xd == 3) = false := by simp [h3]
        have n3' : (xd != 3) = true := by simp [h3]
        have H3 := hid h3
        clear h3
        obtain ⟨s, D, ha, hl⟩ := HD.out
        have HA := hid ha
        have HL := hid hl
        have D := hid D
        clear ha hl
        go_wp2_with fail
        refine (do_any D.out HA.out H3.out OK.out.b OK.out.k (by omega) (by omega)).mono ?_
        rintro e w2 ⟨⟨v1, v2, rfl⟩, k2, s2, D2, a2, l2⟩
        have HD2 := hid (show ∃ s, Dk w2 g b m s ∧ s.armed = false ∧ s.k.length = 20 from ⟨s2, D2, a2, l2.trans HL.out⟩)
        have KP2 := hid (show Kp No w w2 from KP.out.step k2 fun i hi e => by rcases e with e | e | e <;> omega)
        clear D2 k2 a2 l2 c0 c1 c2 c3 c4
        go_wp2
        go_roundw
        case rel => exact ⟨k + 1, by omega, by go_num, HD2, KP2⟩
        case measure => simp [intOf]; omega
    · go_wp2
      go_ret
      obtain ⟨s, D, ha, hl⟩ := HD.out
      exact ⟨g, b, m, s, rfl, D, ha, hl, hg, hb, hmm, KP.out⟩
end
end Go.Proofs.Ytndbkpmfimpgnaa
