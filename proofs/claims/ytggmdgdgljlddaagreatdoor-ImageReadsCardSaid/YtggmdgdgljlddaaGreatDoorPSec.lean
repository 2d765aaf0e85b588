/-
  Sections in memory: what comes in; contracts of the document's Few, Find, Wrong, check.
-/
import Derived.Test.YtggmdgdgljlddaaGreatDoorPMatb
import Derived.Test.YtggmdgdgljlddaaGreatDoorLeB
import Derived.Test.YtggmdgdgljlddaaGreatDoorPCrcC
import Derived.Test.YtggmdgdgljlddaaGreatDoorArgs
import Derived.Test.YtggmdgdgljlddaaGreatDoorHeld
import Derived.Test.YtggmdgdgljlddaaGreatDoorOwn
namespace Go.Proofs.YtggmdgdgljlddaaGreatDoor
open Go.RowKit

/-- A section in memory: a kind, and bytes. -/
structure Sv where
  k : Int
  a : Option Addr
  c : Nat
  bl : List Int
def Sv.bv (s : Sv) : Value := .slice s.a s.bl.length s.c
def sv0 : Sv := ⟨0, none, 0, []⟩
def pc (s : Sv) : Nat → Value
  | 0 => .int .i64 s.k
  | _ => s.bv
def sn (s : Sv) : Sn := ⟨s.k, s.bl⟩
theorem pc_one (s : Sv) (i : Nat) : (pc s i).oneCell' = true := by
  cases i <;> rfl
structure SvOk (w : World) (P : Nat → Prop) (s : Sv) : Prop where
  k : I64 s.k
  b : Byt w P s.bv s.bl
/-- A slice of such. -/
structure Ps (w : World) (P : Nat → Prop) (v : Value) (ss : List Sv) : Prop where
  rw : Rw 2 pc sv0 w P v ss
  ok : ∀ s ∈ ss, SvOk w P s

section
variable {w w' : World} {P S : Nat → Prop} {s : Sv} {v : Value} {ss : List Sv}
theorem SvOk.kp (h : SvOk w P s) (k : Kp S w w') (hs : ∀ i, P i → ¬ S i) : SvOk w' P s := ⟨h.k, h.b.kp k hs⟩
theorem Ps.kp (h : Ps w P v ss) (k : Kp S w w') (hs : ∀ i, P i → ¬ S i) : Ps w' P v ss := ⟨h.rw.kp k fun i _ hp => hs i hp, fun s hs' => (h.ok s hs').kp k hs⟩
theorem Ps.kp0 (h : Ps w P v ss) (k : Kp No w w') : Ps w' P v ss := h.kp k fun _ _ h => h
theorem Rw.below' {α : Type} {n : Nat} {f : α → Nat → Value} {d : α} {xs : List α} (h : Rw n f d w P v xs) : Rw n f d w (fun i => i < w.heap.size) v xs := by
  obtain ⟨A, c, rfl, hc, hm, hr⟩ := h
  refine ⟨A, c, rfl, hc, hm, fun h0 => ?_⟩
  obtain ⟨b, o, e, h1, h2, h3⟩ := hr h0
  exact ⟨b, o, e, h1, h1, h3⟩
theorem Ps.below (h : Ps w P v ss) : Ps w (fun i => i < w.heap.size) v ss := ⟨h.rw.below', fun s hs => ⟨(h.ok s hs).k, (h.ok s hs).b.below⟩⟩
/-- One of them. -/
theorem Ps.at' {A : Option Addr} {n c k : Nat} (h : Ps w P (.slice A n c) ss) (hk : k < ss.length) : ∃ b o, A = some ⟨b, o, none⟩ ∧ SvOk w P (ss.getD k sv0) ∧ w.cell? ⟨b, o + k * 2, none⟩ = some (.int .i64 (ss.getD k sv0).k) ∧ w.cell? ⟨b, o + k * 2 + 1, none⟩ = some (ss.getD k sv0).bv := by
  obtain ⟨A', c', he, h1, h2, h3⟩ := h.rw
  injection he with e1 e2 e3
  subst e1
  obtain ⟨b, o, e, g1, g2, g3⟩ := h3 (by omega)
  refine ⟨b, o, e, h.ok _ (by simp [List.getD, hk]), ?_, ?_⟩
  · have := g3 k 0 hk (by omega)
    rwa [Nat.add_zero] at this
  · have := g3 k 1 hk (by omega)
    rwa [← Nat.add_assoc] at this
theorem Ps.form (h : Ps w P v ss) {n : Nat} (hn : ss.length = n) : ∃ A c, v = .slice A n c ∧ n ≤ c ∧ c ≤ 9223372036854775807 := by
  obtain ⟨A, c, rfl, hc, hm, _⟩ := h.rw
  unfold maxLen at hm
  exact ⟨A, c, by rw [hn], by omega, hm⟩
theorem SvOk.form (h : SvOk w P s) {n : Nat} (hn : s.bl.length = n) : ∃ A c, s.bv = .slice A n c ∧ n ≤ c ∧ c ≤ 9223372036854775807 := by
  obtain ⟨A, c, e, hc, hm, _⟩ := h.b
  unfold maxLen at hm
  exact ⟨A, c, by rw [e, hn], by omega, hm⟩

/-- Of a size that is looked at. -/
def Small (ss : List Sv) : Prop := ss.length ≤ 20 ∧ ∀ s ∈ ss, s.bl.length ≤ 100 ∨ 65535 < s.bl.length
def FewPost (ss : List Sv) (w : World) (e : Ending) (w' : World) : Prop := ∃ q : Bool, e = .returned (.bool q) ∧ w' = w ∧ (q = true → Small ss)
def smallTo (ss : List Sv) (k : Nat) : Prop := ∀ j, j < k → (ss.getD j sv0).bl.length ≤ 100 ∨ 65535 < (ss.getD j sv0).bl.length
/-- What is found. -/
def FindPost (ss : List Sv) (k : Int) (P : Nat → Prop) (w : World) (e : Ending) (w' : World) : Prop :=
  w' = w ∧ ((∃ u x, e = .returned (.tuple #[u, .bool true]) ∧ Byt w P u x ∧ find (ss.map sn) k = some x) ∨ (e = .returned (.tuple #[.slice none 0 0, .bool false]) ∧ find (ss.map sn) k = none))
theorem find_at {k : Int} {j : Nat} (hj : j < ss.length) (h : ∀ i, i < j → (ss.getD i sv0).k ≠ k) (he : (ss.getD j sv0).k = k) : find (ss.map sn) k = some (ss.getD j sv0).bl := by
  induction ss generalizing j with
  | nil => simp at hj
  | cons a ss ih =>
    unfold find
    cases j with
    | zero =>
      rw [List.map_cons, List.find?_cons_of_pos (by simp only [sn]; exact decide_eq_true (by simpa using he))]
      rfl
    | succ j =>
      have h0 := h 0 (by omega)
      rw [List.map_cons, List.find?_cons_of_neg (by simp only [sn]; exact fun h => h0 (by simpa using of_decide_eq_true h))]
      have := ih (j := j) (by simpa using hj) (fun i hi => by simpa using h (i + 1) (by omega)) (by simpa using he)
      unfold find at this
      rw [this]
      simp
theorem find_no {k : Int} (h : ∀ i, i < ss.length → (ss.getD i sv0).k ≠ k) : find (ss.map sn) k = none := by
  rw [find_none]
  intro s hs
  obtain ⟨t, ht, rfl⟩ := List.mem_map.1 hs
  obtain ⟨j, hj, rfl⟩ := List.getElem_of_mem ht
  have := h j hj
  simpa [List.getD, hj, sn] using this
end

/-- Kinds that rise, place by place. -/
def RiseAt (last : Int) (ss : List Sv) (j : Nat) : Prop := 1 ≤ (ss.getD j sv0).k ∧ (ss.getD j sv0).k ≤ 255 ∧ (match j with | 0 => last | i + 1 => (ss.getD i sv0).k) < (ss.getD j sv0).k
theorem rise_iff (ss : List Sv) : ∀ last : Int, risen last (ss.map sn) = true ↔ ∀ j, j < ss.length → RiseAt last ss j := by
  induction ss with
  | nil => intro last; simp [risen]
  | cons s ss ih =>
    intro last
    simp only [List.map_cons, risen, Bool.and_eq_true, decide_eq_true_eq, ih]
    constructor
    · rintro ⟨⟨⟨h1, h2⟩, h3⟩, h4⟩ j hj
      cases j with
      | zero => exact ⟨by simpa [sn] using h1, by simpa [sn] using h2, by simpa [sn] using h3⟩
      | succ j =>
        have := h4 j (by simpa using hj)
        unfold RiseAt at this ⊢
        cases j <;> simpa [sn] using this
    · intro h
      have h0 := h 0 (by simp)
      unfold RiseAt at h0
      refine ⟨by simpa [and_assoc, sn] using h0, fun j hj => ?_⟩
      have := h (j + 1) (by simpa using hj)
      unfold RiseAt at this ⊢
      cases j <;> simpa [sn] using this
theorem RiseAt.zero {ss : List Sv} : RiseAt 0 ss 0 ↔ 1 ≤ (ss.getD 0 sv0).k ∧ (ss.getD 0 sv0).k ≤ 255 := by
  unfold RiseAt
  simp only
  omega
section
variable {w w' : World} {P S : Nat → Prop} {s : Sv} {v : Value} {ss : List Sv}
theorem wrong_full (h : 16 < ss.length) : wrong (ss.map sn) = 7 := by unfold wrong; rw [if_pos (by simpa using h)]
theorem wrong_kind (h : ¬ 16 < ss.length) {j : Nat} (hj : j < ss.length) (hr : ¬ RiseAt 0 ss j) : wrong (ss.map sn) = 21 := by
  unfold wrong
  rw [if_neg (by simpa using h), if_pos]
  have : ¬ risen 0 (ss.map sn) = true := fun e => hr ((rise_iff ss 0).1 e j hj)
  simpa using this
theorem wrong_long (h : ¬ 16 < ss.length) (hr : ∀ j, j < ss.length → RiseAt 0 ss j) {j : Nat} (hj : j < ss.length) (hl : 65535 < (ss.getD j sv0).bl.length) : wrong (ss.map sn) = 22 := by
  unfold wrong
  rw [if_neg (by simpa using h), if_neg (by rw [(rise_iff ss 0).2 hr]; decide), if_pos]
  rw [List.all_eq_false]
  refine ⟨sn (ss.getD j sv0), List.mem_map.2 ⟨_, by simp [List.getD, hj], rfl⟩, ?_⟩
  simp only [sn]
  intro h
  have := of_decide_eq_true h
  omega
theorem wrong_ok (h : ¬ 16 < ss.length) (hr : ∀ j, j < ss.length → RiseAt 0 ss j) (hl : ∀ j, j < ss.length → ¬ 65535 < (ss.getD j sv0).bl.length) : wrong (ss.map sn) = 0 := by
  rw [can_iff]
  refine ⟨by simpa using h, (rise_iff ss 0).2 hr, fun s hs => ?_⟩
  obtain ⟨t, ht, rfl⟩ := List.mem_map.1 hs
  obtain ⟨j, hj, rfl⟩ := List.getElem_of_mem ht
  have := hl j hj
  simp only [List.getD, hj, List.getElem?_eq_getElem, Option.getD_some, sn] at this ⊢
  omega

def WrongPost (ss : List Sv) (w : World) (e : Ending) (w' : World) : Prop := e = .returned (.int .i64 (wrong (ss.map sn))) ∧ ∃ n, w' = w.drewN n
theorem rwrong_any (h : Ps w P v ss) : Calls Tryz.prog 55 #[v] w (WrongPost ss w) := by
  obtain ⟨n, hn⟩ : ∃ n, ss.length = n := ⟨_, rfl⟩
  obtain ⟨A, c, rfl, hc, hm⟩ := h.form hn
  have HN := hid hn
  have HO := hid h
  clear hn h
  by_cases h16 : 16 < n
  · have g16 := decide_eq_true (show (16 : Int) < (n : Int) by omega)
    go_enter Tryz.func55, Tryz.ntmps55
    go_wp2
    go_ret
    exact ⟨by rw [wrong_full (by rw [HN.out]; exact h16)]; rfl, 0, rfl⟩
  have g16 := decide_eq_false (show ¬ (16 : Int) < (n : Int) by omega)
  have h16' := hid h16
  clear h16
  go_enter Tryz.func55, Tryz.ntmps55
  go_wp2
  clear g16
  go_loopw [3] (fun i w' => ∃ k q : Nat, k ≤ n ∧ i = .int .i64 (k : Int) ∧ w' = w.drewN q ∧ Hid (∀ j, j < k → RiseAt 0 ss j)) (fun i _ => n - (intOf i).toNat)
  case atStart => exact ⟨0, 0, Nat.zero_le _, rfl, rfl, hid fun j hj => by omega⟩
  case round =>
    obtain ⟨k, q, hk, rfl, rfl, HT⟩ := hrel
    by_cases hkn : k < n
    · obtain ⟨b, o, rfl, ok, c0, _⟩ := HO.out.at' (k := k) (by rw [HN.out]; exact hkn)
      obtain ⟨x, hx⟩ : ∃ x, (ss.getD k sv0).k = x := ⟨_, rfl⟩
      rw [hx] at c0
      have HX := hid hx
      clear ok hx
      have hsum := wrapI (x := (k : Int) + 1) (by unfold I64; omega)
      have hki : (k : Int) < (n : Int) := by omega
      have H16 := hid (show ¬ 16 < ss.length from by rw [HN.out]; exact h16'.out)
      have HK := hid (show k < ss.length from by rw [HN.out]; exact hkn)
      by_cases h1 : x < 1
      · have n1 := decide_eq_true h1
        have HB := hid (show ¬ RiseAt 0 ss k from fun h => by have := h.1; rw [HX.out] at this; omega)
        go_wp2
        go_quiet (fail)
        go_wp2
        go_ret
        exact ⟨by rw [wrong_kind H16.out HK.out HB.out]; rfl, _, by rw [World.drewN_drewN]⟩
      have n1 := decide_eq_false h1
      by_cases h2 : 255 < x
      · have n2 := decide_eq_true h2
        have HB := hid (show ¬ RiseAt 0 ss k from fun h => by have := h.2.1; rw [HX.out] at this; omega)
        go_wp2
        go_quiet (fail)
        go_wp2
        go_ret
        exact ⟨by rw [wrong_kind H16.out HK.out HB.out]; rfl, _, by rw [World.drewN_drewN]⟩
      have n2 := decide_eq_false h2
      cases k with
      | zero =>
        have HB := hid (show RiseAt 0 ss 0 from RiseAt.zero.2 (by rw [HX.out]; omega))
        simp only [Nat.zero_mul, Nat.add_zero] at c0
        go_wp2
        go_quiet (fail)
        go_wp2
        go_roundw
        case rel =>
          refine ⟨1, _, by omega, by go_num, rfl, hid fun j hj => ?_⟩
          rw [show j = 0 by omega]
          exact HB.out
        case measure => simp [intOf]; omega
      | succ k =>
        obtain ⟨b', o', he, _, c2, _⟩ := HO.out.at' (k := k) (by have := HK.out; omega)
        cases he
        obtain ⟨y, hy⟩ : ∃ y, (ss.getD k sv0).k = y := ⟨_, rfl⟩
        rw [hy] at c2
        have HY := hid hy
        clear hy
        have hdif := wrapI (x := ((k + 1 : Nat) : Int) - 1) (by unfold I64; omega)
        have hnat : (((k + 1 : Nat) : Int) - 1).toNat = k := by omega
        have hpos := decide_eq_true (show (0 : Int) < ((k + 1 : Nat) : Int) by omega)
        have hge : 0 ≤ ((k + 1 : Nat) : Int) - 1 := by omega
        have hlt' : ((k + 1 : Nat) : Int) - 1 < (n : Int) := by omega
        by_cases h3 : x ≤ y
        · have n3 := decide_eq_true h3
          have HB := hid (show ¬ RiseAt 0 ss (k + 1) from fun h => by have := h.2.2; simp only [HX.out, HY.out] at this; omega)
          go_wp2
          go_quiet (fail)
          go_wp2
          go_ret
          exact ⟨by rw [wrong_kind H16.out HK.out HB.out]; rfl, _, by rw [World.drewN_drewN]⟩
        · have n3 := decide_eq_false h3
          have HB := hid (show RiseAt 0 ss (k + 1) from ⟨by rw [HX.out]; omega, by rw [HX.out]; omega, by simp only [HX.out, HY.out]; omega⟩)
          go_wp2
          go_quiet (fail)
          go_wp2
          go_roundw
          case rel =>
            refine ⟨k + 2, _, by omega, by go_num, rfl, hid fun j hj => ?_⟩
            by_cases hjk : j < k + 1
            · exact HT.out j hjk
            · rw [show j = k + 1 by omega]; exact HB.out
          case measure => simp [intOf]; omega
    · have hkk : k = n := by omega
      subst hkk
      clear hk hkn
      go_wp2
      go_loopw [4] (fun i w' => ∃ j : Nat, j ≤ k ∧ i = .int .i64 (j : Int) ∧ w' = w.drewN q ∧ Hid (∀ i, i < j → ¬ 65535 < (ss.getD i sv0).bl.length)) (fun i _ => k - (intOf i).toNat)
      case atStart => exact ⟨0, Nat.zero_le _, rfl, rfl, hid fun j hj => by omega⟩
      case round =>
        obtain ⟨j, hj, rfl, rfl, HL⟩ := hrel
        by_cases hjk : j < k
        · obtain ⟨b, o, rfl, ok, _, c1⟩ := HO.out.at' (k := j) (by rw [HN.out]; exact hjk)
          obtain ⟨nb, hnb⟩ : ∃ nb, (ss.getD j sv0).bl.length = nb := ⟨_, rfl⟩
          obtain ⟨B, bc, hb, hbc, hbm⟩ := ok.form hnb
          rw [hb] at c1
          have HB := hid hnb
          have H16 := hid (show ¬ 16 < ss.length from by rw [HN.out]; exact h16'.out)
          have HK := hid (show j < ss.length from by rw [HN.out]; exact hjk)
          clear ok hb hnb
          have hsum := wrapI (x := (j : Int) + 1) (by unfold I64; omega)
          have hki : (j : Int) < (k : Int) := by omega
          by_cases h1 : 65535 < nb
          · have n1 := decide_eq_true (show (65535 : Int) < (nb : Int) by omega)
            have HR := hid h1
            clear h1
            go_wp2
            go_ret
            exact ⟨by rw [wrong_long H16.out (fun i hi => HT.out i (by have := HN.out; omega)) HK.out (by rw [HB.out]; exact HR.out)]; rfl, _, rfl⟩
          · have n1 := decide_eq_false (show ¬ (65535 : Int) < (nb : Int) by omega)
            go_wp2
            go_roundw
            case rel =>
              refine ⟨j + 1, by omega, by go_num, by first | rfl | trivial, hid fun i hi => ?_⟩
              by_cases hij : i < j
              · exact HL.out i hij
              · rw [show i = j by omega, HB.out]; exact h1
            case measure => simp [intOf]; omega
        · have hjj : j = k := by omega
          subst hjj
          go_wp2
          go_ret
          exact ⟨by rw [wrong_ok (by rw [HN.out]; exact h16'.out) (fun i hi => HT.out i (by have := HN.out; omega)) (fun i hi => HL.out i (by have := HN.out; omega))]; rfl, _, rfl⟩
end

theorem check_any {S : Nat → Prop} {w : World} {v : Value} {xs : List Int} (hv : Byt w S v xs) :
    Calls Tryz.prog 56 #[v] w fun e w' => ∃ u, e = .returned u ∧ Own w' w.heap.size 5 u (ck4 xs) ∧ Kp No w w' := by
  have HV := hid hv
  have hl := ck_lt xs
  have HE := hid (show dg ((ck xs : Nat) : Int) (hw 4) = ck4 xs from rfl)
  clear hv
  go_enter Tryz.func56, Tryz.ntmps56
  go_wp2_with fail
  refine (refof_any v xs _ HV.out).mono ?_
  rintro e w' ⟨rfl, rfl⟩
  go_wp2_with fail
  refine (digits_any _ 4 _ (by omega)).mono ?_
  rintro e w' ⟨u, rfl, hown, hkp⟩
  rw [HE.out] at hown
  go_wp2
  go_ret
  exact ⟨u, rfl, hown, hkp⟩
end Go.Proofs.YtggmdgdgljlddaaGreatDoor
