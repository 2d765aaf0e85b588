/-
  RdA RdB RdC RdD RdE: texts laid into one.
-/
import Derived.Test.YtgfkbkonelphaaaGreatDoorDArm
import Derived.Test.YtgfkbkonelphaaaGreatDoorHeld
import Derived.Test.YtgfkbkonelphaaaGreatDoorArgs
import Derived.Test.YtgfkbkonelphaaaGreatDoorLeA
import Derived.Test.YtgfkbkonelphaaaGreatDoorDKeep
import Derived.Test.YtgfkbkonelphaaaGreatDoorDCrash
import Derived.Test.YtgfkbkonelphaaaGreatDoorSlDM
import Derived.Test.YtgfkbkonelphaaaGreatDoorStore

/-
  The document's disk in memory, as the same plain thing as the program's (Ds); contracts of its call, Read, Arm.
-/
namespace Go.Proofs.YtgfkbkonelphaaaGreatDoor
open Go.RowKit

/-- How many calls it takes still; below 0: it isn't armed. -/
def lft (s : Ds) : Int := if s.armed then s.left else -1
/-- Where sectors' bytes may lie: in none of the disk's own blocks, in none of Z. -/
def Nq (Z : Nat → Prop) (g kb wb ib : Nat) : Nat → Prop := fun i => i ≠ g ∧ i ≠ kb ∧ i ≠ wb ∧ i ≠ ib ∧ ¬ Z i
/-- All its own blocks. -/
def RB (g kb wb ib : Nat) : Nat → Prop := fun i => i = g ∨ i = kb ∨ i = wb ∨ i = ib
def RKc (w : World) (P : Nat → Prop) (kb n : Nat) (s : Ds) : Prop := ∃ cs, Blk w kb 36 cs ∧ ∀ j, j < n → ∃ v, cs[j]? = some v ∧ Byt w P v (s.k.getD j [])
def RWc (w : World) (P : Nat → Prop) (wb n : Nat) (s : Ds) : Prop := ∃ cs, Blk w wb 36 cs ∧ ∀ j, j < n → ∃ v l, cs[j]? = some v ∧ Byt w P v l ∧ ∀ l', s.c (j : Int) = some l' → l' = l
def RIc (w : World) (ib n : Nat) (s : Ds) : Prop := ∃ cs, Blk w ib 4 cs ∧ ∀ j, j < n → cs[j]? = some (.bool (s.c (j : Int)).isSome)
structure Rdk (Z : Nat → Prop) (w : World) (g kb wb ib n : Nat) (s : Ds) : Prop where
  hd : ∃ ck cw ci, n ≤ ck ∧ ck ≤ 9223372036854775807 ∧ n ≤ cw ∧ cw ≤ 9223372036854775807 ∧ n ≤ ci ∧ ci ≤ 9223372036854775807 ∧ Blk w g 54 #[.slice (some ⟨kb, 0, none⟩) n ck, .slice (some ⟨wb, 0, none⟩) n cw, .slice (some ⟨ib, 0, none⟩) n ci, .int .i64 (lft s)]
  kc : RKc w (Nq Z g kb wb ib) kb n s
  wc : RWc w (Nq Z g kb wb ib) wb n s
  ic : RIc w ib n s
  gk : g ≠ kb
  gw : g ≠ wb
  gi : g ≠ ib
  kw : kb ≠ wb
  ki : kb ≠ ib
  wi : wb ≠ ib
  zs : ∀ i, RB g kb wb ib i → ¬ Z i
  len : s.k.length = n
  ok : DOk s

section
variable {w w' : World} {P S Z : Nat → Prop} {g kb wb ib n : Nat} {s : Ds}
theorem RKc.kp (h : RKc w P kb n s) (k : Kp S w w') (h1 : ¬ S kb) (h2 : ∀ i, P i → ¬ S i) : RKc w' P kb n s := by
  obtain ⟨cs, hb, hc⟩ := h
  refine ⟨cs, hb.kp k h1, fun j hj => ?_⟩
  obtain ⟨v, hv, hy⟩ := hc j hj
  exact ⟨v, hv, hy.kp k h2⟩
theorem RWc.kp (h : RWc w P wb n s) (k : Kp S w w') (h1 : ¬ S wb) (h2 : ∀ i, P i → ¬ S i) : RWc w' P wb n s := by
  obtain ⟨cs, hb, hc⟩ := h
  refine ⟨cs, hb.kp k h1, fun j hj => ?_⟩
  obtain ⟨v, l, hv, hy, he⟩ := hc j hj
  exact ⟨v, l, hv, hy.kp k h2, he⟩
theorem RIc.kp (h : RIc w ib n s) (k : Kp S w w') (h1 : ¬ S ib) : RIc w' ib n s := by
  obtain ⟨cs, hb, hc⟩ := h
  exact ⟨cs, hb.kp k h1, hc⟩
theorem Rdk.kp (h : Rdk Z w g kb wb ib n s) (k : Kp S w w') (h1 : ∀ i, RB g kb wb ib i → ¬ S i) (h2 : ∀ i, Nq Z g kb wb ib i → ¬ S i) : Rdk Z w' g kb wb ib n s := by
  obtain ⟨ck, cw, ci, a1, a2, a3, a4, a5, a6, hb⟩ := h.hd
  exact ⟨⟨ck, cw, ci, a1, a2, a3, a4, a5, a6, hb.kp k (h1 g (.inl rfl))⟩, h.kc.kp k (h1 kb (.inr (.inl rfl))) h2, h.wc.kp k (h1 wb (.inr (.inr (.inl rfl)))) h2, h.ic.kp k (h1 ib (.inr (.inr (.inr rfl)))), h.gk, h.gw, h.gi, h.kw, h.ki, h.wi, h.zs, h.len, h.ok⟩
theorem Rdk.kp0 (h : Rdk Z w g kb wb ib n s) (k : Kp No w w') : Rdk Z w' g kb wb ib n s := h.kp k (fun _ _ h => h) fun _ _ h => h
/-- What turns the blocks of Z alone doesn't touch it. -/
theorem Rdk.kpz (h : Rdk Z w g kb wb ib n s) (k : Kp S w w') (hs : ∀ i, S i → Z i) : Rdk Z w' g kb wb ib n s := h.kp k (fun i hi hS => h.zs i hi (hs i hS)) fun i hi hS => hi.2.2.2.2 (hs i hS)
theorem off_lft : off s = (lft s == 0) := by
  unfold off lft
  cases s.armed with
  | false => rfl
  | true => rfl

/-- The head's cells. -/
theorem Rdk.cells (h : Rdk Z w g kb wb ib n s) : ∃ ck cw ci, n ≤ ck ∧ ck ≤ 9223372036854775807 ∧ n ≤ cw ∧ cw ≤ 9223372036854775807 ∧ n ≤ ci ∧ ci ≤ 9223372036854775807 ∧ w.cell? ⟨g, 0, none⟩ = some (.slice (some ⟨kb, 0, none⟩) n ck) ∧ w.cell? ⟨g, 1, none⟩ = some (.slice (some ⟨wb, 0, none⟩) n cw) ∧ w.cell? ⟨g, 2, none⟩ = some (.slice (some ⟨ib, 0, none⟩) n ci) ∧ w.cell? ⟨g, 3, none⟩ = some (.int .i64 (lft s)) ∧ w.frozen? ⟨g, 3, none⟩ = false := by
  obtain ⟨ck, cw, ci, a1, a2, a3, a4, a5, a6, hb⟩ := h.hd
  exact ⟨ck, cw, ci, a1, a2, a3, a4, a5, a6, hb.cell 0, hb.cell 1, hb.cell 2, hb.cell 3, hb.frozen 3⟩
/-- The head with another number of calls. -/
theorem Rdk.left (h : Rdk Z w g kb wb ib n s) {t : Ds} (hk : t.k = s.k) (hc : t.c = s.c) (ht : DOk t) {x : Int} (hx : lft t = x) : Kp (Only g) w (w.setCell ⟨g, 3, none⟩ (.int .i64 x)) ∧ Rdk Z (w.setCell ⟨g, 3, none⟩ (.int .i64 x)) g kb wb ib n t := by
  have k := Kp.set1 g 3 w (.int .i64 x)
  obtain ⟨ck, cw, ci, a1, a2, a3, a4, a5, a6, hb⟩ := h.hd
  have hno : ∀ i, Nq Z g kb wb ib i → ¬ Only g i := fun i hi e => hi.1 e
  have kc := h.kc.kp k (fun e => h.gk (Eq.symm e)) hno
  have wc := h.wc.kp k (fun e => h.gw (Eq.symm e)) hno
  have ic := h.ic.kp k (fun e => h.gi (Eq.symm e))
  unfold RKc at kc
  unfold RWc at wc
  unfold RIc at ic
  refine ⟨k, ⟨⟨ck, cw, ci, a1, a2, a3, a4, a5, a6, ?_⟩, ?_, ?_, ?_, h.gk, h.gw, h.gi, h.kw, h.ki, h.wi, h.zs, by rw [hk]; exact h.len, ht⟩⟩
  · have := hb.put 3 (.int .i64 x)
    rw [hx]
    exact this
  · unfold RKc
    rw [hk]
    exact kc
  · unfold RWc
    rw [hc]
    exact wc
  · unfold RIc
    rw [hc]
    exact ic
theorem calld_ok (h : DOk s) : DOk (calld s) := ⟨h.len, h.sec, h.key, by show 0 ≤ max (s.left - 1) 0; omega, by show max (s.left - 1) 0 ≤ 1048576; have := h.l1; omega⟩
theorem lft_rg (h : DOk s) : -1 ≤ lft s ∧ lft s ≤ 1048576 := by
  have h0 := h.l0
  have h1 := h.l1
  unfold lft
  split <;> omega
theorem Rdk.same (h : Rdk Z w g kb wb ib n s) {t : Ds} (hk : t.k = s.k) (hc : t.c = s.c) (ht : DOk t) (hx : lft t = lft s) : Rdk Z w g kb wb ib n t := by
  have hkc := h.kc
  have hwc := h.wc
  have hic := h.ic
  have hhd := h.hd
  unfold RKc at hkc
  unfold RWc at hwc
  unfold RIc at hic
  refine ⟨by rw [hx]; exact hhd, ?_, ?_, ?_, h.gk, h.gw, h.gi, h.kw, h.ki, h.wi, h.zs, by rw [hk]; exact h.len, ht⟩
  · unfold RKc
    rw [hk]
    exact hkc
  · unfold RWc
    rw [hc]
    exact hwc
  · unfold RIc
    rw [hc]
    exact hic

theorem rcall_any (h : Rdk Z w g kb wb ib n s) : Calls Tryz.prog 59 #[.pointer (some ⟨g, 0, none⟩)] w fun e w' => e = .returned (.bool (!off s)) ∧ Kp (Only g) w w' ∧ Rdk Z w' g kb wb ib n (calld s) ∧ w'.heap.size = w.heap.size := by
  obtain ⟨ck, cw, ci, _, _, _, _, _, _, c0, c1, c2, c3, f3⟩ := h.cells
  have hr := lft_rg h.ok
  have H := hid h
  rw [off_lft]
  have hcl : lft (calld s) = if lft s > 0 then lft s - 1 else lft s := by
    have := h.ok.l0
    unfold lft calld
    simp only
    cases s.armed with
    | false => simp
    | true => simp only [if_true]; omega
  have HCL := hid hcl
  have HOK := hid (calld_ok h.ok)
  obtain ⟨x, hx⟩ : ∃ x, lft s = x := ⟨_, rfl⟩
  have HX := hid hx
  rw [hx] at c3 hr ⊢
  clear h hcl hx c0 c1 c2
  by_cases h0 : x = 0
  · subst h0
    go_enter Tryz.func59, Tryz.ntmps59
    go_wp2
    go_ret
    exact ⟨rfl, Kp.refl _ _, H.out.same rfl rfl HOK.out (by rw [HCL.out, HX.out]; rfl), rfl⟩
  · have hb : (x == 0) = false := by simp [h0]
    by_cases hp : 0 < x
    · have hw : IntKind.i64.wrap (x - 1) = x - 1 := wrapI (by unfold I64; omega)
      have HL := hid (H.out.left (t := calld s) rfl rfl HOK.out (x := x - 1) (by rw [HCL.out, HX.out, if_pos hp]))
      clear h0
      go_enter Tryz.func59, Tryz.ntmps59
      go_wp2
      go_ret
      rw [hb]
      exact ⟨rfl, HL.out.1, HL.out.2, by simp [World.setCell]⟩
    · have HN := hid (show lft (calld s) = lft s by rw [HCL.out, HX.out, if_neg hp])
      clear h0
      go_enter Tryz.func59, Tryz.ntmps59
      go_wp2
      go_ret
      exact ⟨rfl, Kp.refl _ _, H.out.same rfl rfl HOK.out HN.out, rfl⟩

/-- What is read, by the document: no new bytes. -/
theorem rread_is (h : Rdk Z w g kb wb ib n s) {i : Nat} (hi : i < n) (ho : off s = false) : Calls Tryz.prog 30 #[.pointer (some ⟨g, 0, none⟩), .int .i64 (i : Int)] w fun e w' => (∃ v, e = .returned (.tuple #[v, .int .i64 0]) ∧ Byt w (Nq Z g kb wb ib) v (look s i)) ∧ w' = w := by
  obtain ⟨ck, cw, ci, a1, a2, a3, a4, a5, a6, c0, c1, c2, c3, _⟩ := h.cells
  obtain ⟨ki, hki, hk⟩ := h.kc
  obtain ⟨wi, hwi, hw⟩ := h.wc
  obtain ⟨ii, hii, hin⟩ := h.ic
  obtain ⟨vk, hvk, byk⟩ := hk i hi
  obtain ⟨vw, l, hvw, byw, hl⟩ := hw i hi
  have hvi := hin i hi
  have d0 : w.cell? ⟨kb, i, none⟩ = some vk := by rw [hki.cell]; exact hvk
  have d1 : w.cell? ⟨wb, i, none⟩ = some vw := by rw [hwi.cell]; exact hvw
  have d2 : w.cell? ⟨ib, i, none⟩ = some (.bool (s.c (i : Int)).isSome) := by rw [hii.cell]; exact hvi
  have ho' : (lft s == 0) = false := by rw [← off_lft]; exact ho
  obtain ⟨x, hx⟩ : ∃ x, lft s = x := ⟨_, rfl⟩
  rw [hx] at c3 ho'
  have hn : (i : Int) < (n : Int) := by omega
  have BK := hid byk
  have BW := hid byw
  have HL := hid hl
  clear h hk hw hin hki hwi hii hvk hvw hvi byk byw hl ho hx
  cases hc : s.c (i : Int) with
  | none =>
    have E := hid (show look s i = s.k.getD i [] by unfold look; rw [hc]; rfl)
    rw [hc] at d2
    have d2' : w.cell? ⟨ib, i, none⟩ = some (.bool false) := d2
    clear hc d2
    go_enter Tryz.func30, Tryz.ntmps30
    go_wp2
    go_ret2
    rw [E.out]
    exact ⟨⟨_, rfl, BK.out⟩, rfl⟩
  | some l' =>
    have E := hid (show look s i = l by unfold look; rw [hc]; exact HL.out l' hc)
    rw [hc] at d2
    have d2' : w.cell? ⟨ib, i, none⟩ = some (.bool true) := d2
    clear hc d2
    go_enter Tryz.func30, Tryz.ntmps30
    go_wp2
    go_ret2
    rw [E.out]
    exact ⟨⟨_, rfl, BW.out⟩, rfl⟩
theorem rread_off (h : Rdk Z w g kb wb ib n s) {i : Nat} (hi : i < n) (ho : off s = true) : Calls Tryz.prog 30 #[.pointer (some ⟨g, 0, none⟩), .int .i64 (i : Int)] w fun e w' => e = .returned (.tuple #[.slice none 0 0, .int .i64 19]) ∧ w' = w := by
  obtain ⟨ck, cw, ci, a1, a2, a3, a4, a5, a6, c0, c1, c2, c3, _⟩ := h.cells
  have ho' : (lft s == 0) = true := by rw [← off_lft]; exact ho
  obtain ⟨x, hx⟩ : ∃ x, lft s = x := ⟨_, rfl⟩
  rw [hx] at c3 ho'
  have hn : (i : Int) < (n : Int) := by omega
  clear h ho hx
  go_enter Tryz.func30, Tryz.ntmps30
  go_wp2
  go_ret2
  exact ⟨rfl, rfl⟩
theorem rarm_any (h : Rdk Z w g kb wb ib n s) (m : Int) : Calls Tryz.prog 15 #[.pointer (some ⟨g, 0, none⟩), .int .i64 m] w fun e w' => (∃ v, e = .returned v) ∧ Kp (Only g) w w' ∧ Rdk Z w' g kb wb ib n (armedBy s m) := by
  obtain ⟨ck, cw, ci, _, _, _, _, _, _, c0, c1, c2, c3, f3⟩ := h.cells
  have hok : DOk (armedBy s m) := ⟨h.ok.len, h.ok.sec, h.ok.key, by show 0 ≤ dhold m 1048576; unfold dhold; omega, by show dhold m 1048576 ≤ 1048576; unfold dhold; omega⟩
  have HL := hid (fun x (hx : lft (armedBy s m) = x) => h.left (t := armedBy s m) rfl rfl hok (x := x) hx)
  have HE := hid (show lft (armedBy s m) = min (max m 0) 1048576 from rfl)
  clear h hok c0 c1 c2
  go_enter Tryz.func15, Tryz.ntmps15
  go_wp2
  all_goals
    refine bodyPost_end (results_none rfl _ _ _) rfl ⟨⟨_, rfl⟩, ?_⟩
    refine HL.out _ ?_
    rw [HE.out]
    omega
end
end Go.Proofs.YtgfkbkonelphaaaGreatDoor

/-
  Contracts of the document's disk: Write, keep.
-/
namespace Go.Proofs.YtgfkbkonelphaaaGreatDoor
open Go.RowKit

section
variable {w w' : World} {P S Z : Nat → Prop} {g kb wb ib n : Nat} {s : Ds} {v : Value} {xs : List Int}
theorem rwrite_off (h : Rdk Z w g kb wb ib n s) (ho : off s = true) (i : Int) (v : Value) : Calls Tryz.prog 38 #[.pointer (some ⟨g, 0, none⟩), .int .i64 i, v] w fun e w' => e = .returned (.int .i64 19) ∧ Kp (Only g) w w' ∧ Rdk Z w' g kb wb ib n (calld s) := by
  go_enter Tryz.func38, Tryz.ntmps38
  go_wp2_with fail
  refine (rcall_any h).mono ?_
  rintro e w1 ⟨rfl, k1, D1, z1⟩
  rw [ho]
  go_wp2
  go_ret
  exact ⟨rfl, k1, D1⟩

/-- A cell of W and one of In are laid: the disk behind a write. -/
theorem Rdk.wrote (h : Rdk Z w g kb wb ib n (calld s)) {i : Nat} (hi : i < n) {u : Value} (hu : Byt w (Nq Z g kb wb ib) u (pad xs)) (hx : Sec (pad xs)) :
    Kp (RB g kb wb ib) w ((w.setCell ⟨wb, i, none⟩ u).setCell ⟨ib, i, none⟩ (.bool true)) ∧ Rdk Z ((w.setCell ⟨wb, i, none⟩ u).setCell ⟨ib, i, none⟩ (.bool true)) g kb wb ib n (Proofs.YtgfkbkonelphaaaGreatDoor.wrote s (i : Int) xs) := by
  have k : Kp (fun j => j = wb ∨ j = ib) w ((w.setCell ⟨wb, i, none⟩ u).setCell ⟨ib, i, none⟩ (.bool true)) := ((Kp.refl (fun j => j = wb ∨ j = ib) w).setCell (p := ⟨wb, i, none⟩) (.inl (.inl rfl)) u).setCell (p := ⟨ib, i, none⟩) (.inl (.inr rfl)) _
  have hno : ∀ j, Nq Z g kb wb ib j → ¬ (j = wb ∨ j = ib) := fun j hj e => e.elim (fun e => hj.2.2.1 e) fun e => hj.2.2.2.1 e
  obtain ⟨ck, cw, ci, a1, a2, a3, a4, a5, a6, hb⟩ := h.hd
  obtain ⟨csw, hbw, hcw⟩ := h.wc
  obtain ⟨csi, hbi, hci⟩ := h.ic
  refine ⟨k.mono fun j _ e => e.elim (fun e => .inr (.inr (.inl e))) fun e => .inr (.inr (.inr e)), ⟨⟨ck, cw, ci, a1, a2, a3, a4, a5, a6, ?_⟩, ?_, ?_, ?_, h.gk, h.gw, h.gi, h.kw, h.ki, h.wi, h.zs, h.len, ?_⟩⟩
  · exact hb.kp k fun e => e.elim h.gw h.gi
  · exact h.kc.kp k (fun e => e.elim h.kw h.ki) hno
  · refine ⟨csw.setIfInBounds i u, ?_, fun j hj => ?_⟩
    · exact (hbw.put i u).kp (Kp.set1 ib i _ (.bool true)) fun e => h.wi e
    · obtain ⟨v0, l0, hv0, by0, hl0⟩ := hcw j hj
      by_cases hji : j = i
      · subst hji
        refine ⟨u, pad xs, ?_, hu.kp k hno, fun l' hl' => ?_⟩
        · rw [Array.getElem?_setIfInBounds_self_of_lt (Array.getElem?_eq_some_iff.1 hv0).1]
        · unfold Proofs.YtgfkbkonelphaaaGreatDoor.wrote at hl'
          simp only [if_true] at hl'
          exact (Option.some.inj hl').symm
      · refine ⟨v0, l0, ?_, by0.kp k hno, fun l' hl' => hl0 l' ?_⟩
        · rw [Array.getElem?_setIfInBounds_ne (fun e => hji e.symm)]
          exact hv0
        · unfold Proofs.YtgfkbkonelphaaaGreatDoor.wrote at hl'
          simp only at hl'
          rw [if_neg (by omega)] at hl'
          exact hl'
  · refine ⟨csi.setIfInBounds i (.bool true), ?_, fun j hj => ?_⟩
    · exact (hbi.kp (Kp.set1 wb i w u) fun e => h.wi (Eq.symm e)).put i (.bool true)
    · have h0 := hci j hj
      by_cases hji : j = i
      · subst hji
        rw [Array.getElem?_setIfInBounds_self_of_lt (Array.getElem?_eq_some_iff.1 h0).1]
        unfold Proofs.YtgfkbkonelphaaaGreatDoor.wrote
        simp
      · rw [Array.getElem?_setIfInBounds_ne (fun e => hji e.symm), h0]
        unfold Proofs.YtgfkbkonelphaaaGreatDoor.wrote
        simp only
        rw [if_neg (by omega)]
        rfl
  · refine ⟨h.ok.len, h.ok.sec, fun j l hl => ?_, h.ok.l0, h.ok.l1⟩
    unfold Proofs.YtgfkbkonelphaaaGreatDoor.wrote at hl
    simp only at hl
    split at hl
    · rename_i hj
      cases hl
      have := h.len
      have hlen : (calld s).k.length = n := h.len
      exact ⟨by omega, by show j < ((calld s).k.length : Int); omega, hx⟩
    · exact h.ok.key j l hl

set_option maxRecDepth 100000 in
set_option maxHeartbeats 1000000 in
theorem rwrite_is (h : Rdk Z w g kb wb ib n s) (ho : off s = false) {i : Nat} (hi : i < n) (hv : Byt w P v xs) (hP : ¬ P g) (hl : xs.length ≤ 64) (hz : ∀ j, w.heap.size ≤ j → ¬ Z j) :
    Calls Tryz.prog 38 #[.pointer (some ⟨g, 0, none⟩), .int .i64 (i : Int), v] w fun e w' => e = .returned (.int .i64 0) ∧ Kp (RB g kb wb ib) w w' ∧ Rdk Z w' g kb wb ib n (wrote s (i : Int) xs) := by
  have hpos : (i : Int) < (n : Int) := by omega
  have HV := hid hv
  have HS := hid (pad_sec hl hv.bytes)
  obtain ⟨xn, hxn⟩ : ∃ xn, xs.length = xn := ⟨_, rfl⟩
  obtain ⟨A, c, rfl, hrest⟩ := hv
  have HXN := hid hxn
  rw [hxn] at hl HV ⊢
  clear hrest hxn
  go_enter Tryz.func38, Tryz.ntmps38
  go_wp2_with fail
  refine (rcall_any h).mono ?_
  rintro e w1 ⟨rfl, k1, D1, z1⟩
  rw [ho]
  have K1 := hid k1
  have DD := hid D1
  have HV1 := hid (HV.out.kp k1 fun j hj e => hP (e ▸ hj))
  obtain ⟨ck, cw, ci, a1, a2, a3, a4, a5, a6, c0, c1, c2, c3, _⟩ := D1.cells
  have hzz := hid hz
  have hlen : n ≤ 512 := by have := D1.ok.len; rw [D1.len] at this; exact this
  have g64 : ¬ (64 : Int) < (xn : Int) := by omega
  have Z1 := hid z1
  clear k1 D1 hz c3 z1
  go_wp2_with (first
    | (at_builtin
       refine wp_app isU8 rfl (.tmp 27) (.tmp 28) rfl (base := w1.heap.size) (xs := []) (ys := xs) (by exact Own.mt _ _) (by exact HV1.out.kp0 ((Kp.refl _ _).alloc _)) (by rw [HXN.out]; simp; omega) (by simp) ?_
       intro v2 w2 o2 k2
       rw [List.nil_append] at o2
       have K2 := hid (((Kp.refl No w1).alloc (.cells #[] 5)).step k2 fun j hj h => absurd hj (Nat.not_lt.2 h))
       have O2 := hid o2
       clear o2 k2))
  have H0 := hid (show xs = xs ++ List.replicate 0 0 by simp)
  have hg1 : g < w1.heap.size := World.block_lt_of_cell? w1 _ c0
  have HSZ := hid (show ∀ w3, Kp No w1 w3 → ∀ d, d < 3 → w3.cell? ⟨g, d, none⟩ = w1.cell? ⟨g, d, none⟩ from fun w3 k d _ => k.cell (p := ⟨g, d, none⟩) hg1 fun h => h)
  clear hg1
  go_loopw [8] (fun u w3 => ∃ k : Nat, xn + k ≤ 64 ∧ Own w3 w1.heap.size 5 u (xs ++ List.replicate k 0) ∧ Kp No w1 w3) (fun u _ => 64 - lenOf u)
  case atStart => exact ⟨0, by omega, by rw [← H0.out]; exact O2.out, K2.out⟩
  case round =>
    obtain ⟨k, hk, hown, hkp⟩ := hrel
    clear O2 K2
    obtain ⟨A3, c3, rfl⟩ := hown.formN (n := xn + k) (by rw [List.length_append, HXN.out, List.length_replicate])
    have OW := hid hown
    have KW := hid hkp
    clear hown hkp
    by_cases hk64 : xn + k < 64
    · have g1 : (xn : Int) + (k : Int) < 64 := by omega
      have g2 : ((xn + k : Nat) : Int) < 64 := by omega
      go_wp2_with (first
        | (at_builtin
           refine wp_app isU8 rfl (.tmp 33) (.tmp 34) rfl (base := w1.heap.size) (xs := xs ++ List.replicate k 0) (ys := [0]) (by exact OW.out.alloc _) (by exact Byt.one (P := Anyb) _ _ _ (by omega) trivial) (by rw [List.length_append, HXN.out, List.length_replicate]; simp; omega) (by exact (KW.out.alloc _).size) ?_
           intro v4 w4 o4 k4
           have K4 := hid ((KW.out.alloc (.cells #[.int .u8 0] 5)).step k4 fun j hj h => absurd hj (Nat.not_lt.2 h))
           have o4' : Own w4 w1.heap.size 5 v4 (xs ++ List.replicate (k + 1) 0) := by
             rw [List.append_assoc] at o4
             rw [List.replicate_succ']
             exact o4
           have O4 := hid o4'
           obtain ⟨A5, c5, rfl⟩ := o4'.formN (n := xn + k + 1) (by rw [List.length_append, HXN.out, List.length_replicate]; omega)
           clear o4 k4 o4'))
      go_roundw
      case rel => exact ⟨k + 1, by omega, O4.out, K4.out⟩
      case measure => simp [lenOf]; omega
    · have hkk : k = 64 - xn := by omega
      subst hkk
      have hpd : xs ++ List.replicate (64 - xn) 0 = pad xs := by unfold pad; rw [HXN.out]
      have e64 : xn + (64 - xn) = 64 := by omega
      rw [hpd, e64] at OW
      rw [e64]
      have g2 : ¬ ((64 : Nat) : Int) < 64 := by omega
      have DW := hid (DD.out.kp0 KW.out)
      have hby := OW.out.byt (P := fun j => w1.heap.size ≤ j) fun j hj => hj
      have HBy := hid (hby.mono (Q := Nq Z g kb wb ib) fun j _ hj => by
        have l0 := DD.out
        obtain ⟨_, _, _, _, _, _, _, _, _, hbg⟩ := l0.hd
        obtain ⟨_, hbk, _⟩ := l0.kc
        obtain ⟨_, hbw, _⟩ := l0.wc
        obtain ⟨_, hbi, _⟩ := l0.ic
        have q1 := hbg.lt
        have q2 := hbk.lt
        have q3 := hbw.lt
        have q4 := hbi.lt
        exact ⟨by omega, by omega, by omega, by omega, hzz.out j (by have := Z1.out; omega)⟩)
      obtain ⟨_, hbw, hcw⟩ := DW.out.wc
      obtain ⟨_, hbi, hci⟩ := DW.out.ic
      obtain ⟨v0, _, hv0, _, _⟩ := hcw i hi
      have hv1 := hci i hi
      have e0 := (HSZ.out _ KW.out 0 (by omega)).trans c0
      have e1 := (HSZ.out _ KW.out 1 (by omega)).trans c1
      have e2 := (HSZ.out _ KW.out 2 (by omega)).trans c2
      have d1 : wr.cell? ⟨wb, i, none⟩ = some v0 := by rw [hbw.cell]; exact hv0
      have d2 : wr.cell? ⟨ib, i, none⟩ = some (.bool (s.c (i : Int)).isSome) := by rw [hbi.cell]; exact hv1
      have f1 := hbw.frozen i
      have f2 := hbi.frozen i
      have hwi := DW.out.wi
      clear hbw hbi hcw hci hv0 hv1 hby hpd
      have hgl := World.block_lt_of_cell? wr _ e0
      have q0 := ((Kp.set1 wb i wr (.slice A3 64 c3)).cell (p := ⟨g, 0, none⟩) hgl (fun e => DW.out.gw e)).trans e0
      have q1 := ((Kp.set1 wb i wr (.slice A3 64 c3)).cell (p := ⟨g, 1, none⟩) hgl (fun e => DW.out.gw e)).trans e1
      have q2 := ((Kp.set1 wb i wr (.slice A3 64 c3)).cell (p := ⟨g, 2, none⟩) hgl (fun e => DW.out.gw e)).trans e2
      have q3 := ((Kp.set1 wb i wr (.slice A3 64 c3)).cell (p := ⟨ib, i, none⟩) (World.block_lt_of_cell? wr _ d2) (fun e => hwi (Eq.symm e))).trans d2
      have HW := hid (DW.out.wrote hi HBy.out HS.out)
      have KK := hid ((K1.out.mono (T := RB g kb wb ib) fun j _ e => .inl e).trans (KW.out.all.trans HW.out.1))
      clear hgl hwi
      go_wp2
      go_ret
      exact ⟨rfl, KK.out, HW.out.2⟩
end
end Go.Proofs.YtgfkbkonelphaaaGreatDoor

/-
  Contracts of the document's disk: keep, Flush.
-/
namespace Go.Proofs.YtgfkbkonelphaaaGreatDoor
open Go.RowKit

/-- A sector that waits is kept. -/
def kpA (s : Ds) (i : Nat) : Ds := { s with k := s.k.set i ((s.c (i : Int)).getD (s.k.getD i [])) }
/-- It waits no more. -/
def kpB (s : Ds) (i : Nat) : Ds := { s with c := fun j => if j = (i : Int) then none else s.c j }
def kp1 (s : Ds) (i : Nat) (is : Bool) : Ds := kpB (if is then kpA s i else s) i

section
variable {w w' : World} {P S Z : Nat → Prop} {g kb wb ib n : Nat} {s : Ds} {v u : Value} {xs : List Int}
theorem Rdk.keepA (h : Rdk Z w g kb wb ib n s) {i : Nat} (hi : i < n) (hs : (s.c (i : Int)).isSome = true) (hu : w.cell? ⟨wb, i, none⟩ = some u) : Kp (RB g kb wb ib) w (w.setCell ⟨kb, i, none⟩ u) ∧ Rdk Z (w.setCell ⟨kb, i, none⟩ u) g kb wb ib n (kpA s i) := by
  have k := Kp.set1 kb i w u
  have hno : ∀ j, Nq Z g kb wb ib j → ¬ Only kb j := fun j hj e => hj.2.1 e
  obtain ⟨ck, cw, ci, a1, a2, a3, a4, a5, a6, hb⟩ := h.hd
  obtain ⟨csk, hbk, hck⟩ := h.kc
  obtain ⟨csw, hbw, hcw⟩ := h.wc
  obtain ⟨l, hl⟩ := Option.isSome_iff_exists.1 hs
  obtain ⟨v0, l0, hv0, by0, hl0⟩ := hcw i hi
  have hu' : u = v0 := by
    rw [hbw.cell, hv0] at hu
    exact (Option.some.inj hu).symm
  subst hu'
  have hll := hl0 l hl
  subst hll
  have hlen := h.len
  have hk : ∀ j, (kpA s i).k.getD j [] = if j = i then l else s.k.getD j [] := fun j => by
    unfold kpA
    rw [hl]
    by_cases hji : j = i
    · subst hji
      simp [List.getD, show j < s.k.length by omega]
    · rw [if_neg hji]
      simp [List.getD, show ¬ i = j from fun e => hji e.symm]
  refine ⟨k.mono fun j _ e => .inr (.inl e), ⟨⟨ck, cw, ci, a1, a2, a3, a4, a5, a6, hb.kp k fun e => h.gk e⟩, ?_, h.wc.kp k (fun e => h.kw (Eq.symm e)) hno, h.ic.kp k (fun e => h.ki (Eq.symm e)), h.gk, h.gw, h.gi, h.kw, h.ki, h.wi, h.zs, by simp [kpA, hlen], ?_⟩⟩
  · refine ⟨csk.setIfInBounds i u, hbk.put i u, fun j hj => ?_⟩
    obtain ⟨v1, hv1, by1⟩ := hck j hj
    rw [hk]
    by_cases hji : j = i
    · subst hji
      rw [if_pos rfl]
      exact ⟨u, by rw [Array.getElem?_setIfInBounds_self_of_lt (Array.getElem?_eq_some_iff.1 hv1).1], by0.kp k hno⟩
    · rw [if_neg hji]
      exact ⟨v1, by rw [Array.getElem?_setIfInBounds_ne (fun e => hji e.symm)]; exact hv1, by1.kp k hno⟩
  · have hok := h.ok
    refine ⟨by simp [kpA]; exact hok.len, fun l' hl' => ?_, fun j l' hl' => ?_, hok.l0, hok.l1⟩
    · unfold kpA at hl'
      rcases List.mem_or_eq_of_mem_set hl' with h1 | h1
      · exact hok.sec l' h1
      · rw [h1, hl]
        exact (hok.key _ _ hl).2.2
    · have := hok.key j l' hl'
      exact ⟨this.1, by simp [kpA]; exact this.2.1, this.2.2⟩
theorem Rdk.keepB (h : Rdk Z w g kb wb ib n s) {i : Nat} (hi : i < n) : Kp (RB g kb wb ib) w (w.setCell ⟨ib, i, none⟩ (.bool false)) ∧ Rdk Z (w.setCell ⟨ib, i, none⟩ (.bool false)) g kb wb ib n (kpB s i) := by
  have k := Kp.set1 ib i w (.bool false)
  have hno : ∀ j, Nq Z g kb wb ib j → ¬ Only ib j := fun j hj e => hj.2.2.2.1 e
  obtain ⟨ck, cw, ci, a1, a2, a3, a4, a5, a6, hb⟩ := h.hd
  obtain ⟨csw, hbw, hcw⟩ := h.wc
  obtain ⟨csi, hbi, hci⟩ := h.ic
  refine ⟨k.mono fun j _ e => .inr (.inr (.inr e)), ⟨⟨ck, cw, ci, a1, a2, a3, a4, a5, a6, hb.kp k fun e => h.gi e⟩, h.kc.kp k (fun e => h.ki e) hno, ?_, ?_, h.gk, h.gw, h.gi, h.kw, h.ki, h.wi, h.zs, h.len, ?_⟩⟩
  · refine ⟨csw, hbw.kp k fun e => h.wi e, fun j hj => ?_⟩
    obtain ⟨v0, l0, hv0, by0, hl0⟩ := hcw j hj
    refine ⟨v0, l0, hv0, by0.kp k hno, fun l' hl' => hl0 l' ?_⟩
    unfold kpB at hl'
    simp only at hl'
    split at hl'
    · cases hl'
    · exact hl'
  · refine ⟨csi.setIfInBounds i (.bool false), hbi.put i (.bool false), fun j hj => ?_⟩
    have h0 := hci j hj
    by_cases hji : j = i
    · subst hji
      rw [Array.getElem?_setIfInBounds_self_of_lt (Array.getElem?_eq_some_iff.1 h0).1]
      unfold kpB
      simp
    · rw [Array.getElem?_setIfInBounds_ne (fun e => hji e.symm), h0]
      unfold kpB
      simp only
      rw [if_neg (by omega)]
  · refine ⟨h.ok.len, h.ok.sec, fun j l hl => ?_, h.ok.l0, h.ok.l1⟩
    unfold kpB at hl
    simp only at hl
    split at hl
    · cases hl
    · exact h.ok.key j l hl

/-- Its cells that a call on one sector asks. -/
theorem Rdk.spots (h : Rdk Z w g kb wb ib n s) {i : Nat} (hi : i < n) : ∃ ck cw ci vk A m c, (n ≤ ck ∧ ck ≤ 9223372036854775807 ∧ n ≤ cw ∧ cw ≤ 9223372036854775807 ∧ n ≤ ci ∧ ci ≤ 9223372036854775807) ∧
    w.cell? ⟨g, 0, none⟩ = some (.slice (some ⟨kb, 0, none⟩) n ck) ∧ w.cell? ⟨g, 1, none⟩ = some (.slice (some ⟨wb, 0, none⟩) n cw) ∧ w.cell? ⟨g, 2, none⟩ = some (.slice (some ⟨ib, 0, none⟩) n ci) ∧
    w.cell? ⟨kb, i, none⟩ = some vk ∧ w.cell? ⟨wb, i, none⟩ = some (.slice A m c) ∧ w.cell? ⟨ib, i, none⟩ = some (.bool (s.c (i : Int)).isSome) ∧ w.frozen? ⟨kb, i, none⟩ = false ∧ w.frozen? ⟨ib, i, none⟩ = false ∧ Byt w (Nq Z g kb wb ib) vk (s.k.getD i []) := by
  obtain ⟨ck, cw, ci, a1, a2, a3, a4, a5, a6, c0, c1, c2, _, _⟩ := h.cells
  obtain ⟨csk, hbk, hck⟩ := h.kc
  obtain ⟨csw, hbw, hcw⟩ := h.wc
  obtain ⟨csi, hbi, hci⟩ := h.ic
  obtain ⟨vk, hvk, hby⟩ := hck i hi
  obtain ⟨u, _, hu, byu, _⟩ := hcw i hi
  obtain ⟨A, c, rfl, _⟩ := byu
  have hv := hci i hi
  exact ⟨ck, cw, ci, vk, A, _, c, ⟨a1, a2, a3, a4, a5, a6⟩, c0, c1, c2, by rw [hbk.cell]; exact hvk, by rw [hbw.cell]; exact hu, by rw [hbi.cell]; exact hv, hbk.frozen i, hbi.frozen i, hby⟩

set_option maxRecDepth 100000 in
theorem rkeep_any (h : Rdk Z w g kb wb ib n s) {i : Nat} (hi : i < n) (is : Bool) (hs : is = true → (s.c (i : Int)).isSome = true) :
    Calls Tryz.prog 44 #[.pointer (some ⟨g, 0, none⟩), .int .i64 (i : Int), .bool is] w fun e w' => (∃ v, e = .returned v) ∧ Kp (RB g kb wb ib) w w' ∧ Rdk Z w' g kb wb ib n (kp1 s i is) := by
  have hpos : (i : Int) < (n : Int) := by omega
  have hlen : n ≤ 512 := by have := h.ok.len; rw [h.len] at this; exact this
  have H := hid h
  cases is with
  | false =>
    obtain ⟨ck, cw, ci, vk, A0, m0, e0, ⟨a1, a2, a3, a4, a5, a6⟩, c0, c1, c2, d0, d1, d2, f0, f2, _⟩ := h.spots hi
    have HB := hid (H.out.keepB hi)
    clear hs h
    go_enter Tryz.func44, Tryz.ntmps44
    go_wp2
    exact bodyPost_end (results_none rfl _ _ _) rfl ⟨⟨_, rfl⟩, HB.out.1, HB.out.2⟩
  | true =>
    obtain ⟨ck, cw, ci, vk, A0, m0, e0, ⟨a1, a2, a3, a4, a5, a6⟩, c0, c1, c2, d0, d1, d2, f0, f2, _⟩ := h.spots hi
    have HA := hid (H.out.keepA hi (hs rfl) d1)
    have HB := hid (HA.out.2.keepB hi)
    have hlt := World.block_lt_of_cell? w _ c0
    have q2 : (w.setCell ⟨kb, i, none⟩ (.slice A0 m0 e0)).drew.cell? ⟨g, 2, none⟩ = some (.slice (some ⟨ib, 0, none⟩) n ci) := ((Kp.set1 kb i w (.slice A0 m0 e0)).cell (p := ⟨g, 2, none⟩) hlt (fun e => H.out.gk e)).trans c2
    have q3 : (w.setCell ⟨kb, i, none⟩ (.slice A0 m0 e0)).drew.cell? ⟨ib, i, none⟩ = some (.bool (s.c (i : Int)).isSome) := ((Kp.set1 kb i w (.slice A0 m0 e0)).cell (p := ⟨ib, i, none⟩) (World.block_lt_of_cell? w _ d2) (fun e => H.out.ki (Eq.symm e))).trans d2
    have g2 : (w.setCell ⟨kb, i, none⟩ (.slice A0 m0 e0)).drew.frozen? ⟨ib, i, none⟩ = false := by
      obtain ⟨_, hbi, _⟩ := HA.out.2.ic
      exact hbi.frozen i
    have e0' : w.drew.cell? ⟨g, 0, none⟩ = some (.slice (some ⟨kb, 0, none⟩) n ck) := c0
    have e1' : w.drew.cell? ⟨g, 1, none⟩ = some (.slice (some ⟨wb, 0, none⟩) n cw) := c1
    have e2' : w.drew.cell? ⟨wb, i, none⟩ = some (.slice A0 m0 e0) := d1
    have e3' : w.drew.cell? ⟨kb, i, none⟩ = some vk := d0
    have e4' : w.drew.frozen? ⟨kb, i, none⟩ = false := f0
    clear hs hlt h
    go_enter Tryz.func44, Tryz.ntmps44
    go_wp2_with fail
    refine region_tail 13 (by kernel_rfl) (by kernel_rfl) ?_
    simp only [List.take_succ_cons, List.take_zero, List.drop_succ_cons, List.drop_zero]
    repeat still_step
    refine wpStill_nil ?_
    go_wp2
    exact bodyPost_end (results_none rfl _ _ _) rfl ⟨⟨_, rfl⟩, (HA.out.1.trans HB.out.1).drew, HB.out.2.kp0 ((Kp.refl No _).drew)⟩
end

theorem ds_ext {a b : Ds} (h1 : a.k = b.k) (h2 : a.c = b.c) (h3 : a.armed = b.armed) (h4 : a.left = b.left) : a = b := by
  cases a
  cases b
  simp only at h1 h2 h3 h4
  subst h1 h2 h3 h4
  rfl
/-- Behind so many of the sectors. -/
def flN (s : Ds) (j : Nat) : Ds := { s with k := s.k.mapIdx fun t l => if t < j then (s.c (t : Int)).getD l else l, c := fun x => if x < (j : Int) then none else s.c x }
theorem flN_len (s : Ds) (j : Nat) : (flN s j).k.length = s.k.length := by simp [flN]
theorem flN_zero {s : Ds} (h : DOk s) : flN s 0 = s := by
  unfold flN
  have e1 : (s.k.mapIdx fun t l => if t < 0 then (s.c (t : Int)).getD l else l) = s.k := List.ext_getElem? fun y => by
    rw [List.getElem?_mapIdx]
    cases s.k[y]? with
    | none => rfl
    | some l => simp
  have e2 : (fun x => if x < ((0 : Nat) : Int) then none else s.c x) = s.c := funext fun x => by
    split
    · cases hx : s.c x with
      | none => rfl
      | some l =>
        have := (h.key x l hx).1
        omega
    · rfl
  rw [e1, e2]
theorem flN_step {s : Ds} (j : Nat) (hj : j < s.k.length) (b : Bool) (hb : b = ((flN s j).c (j : Int)).isSome) : kp1 (flN s j) j b = flN s (j + 1) := by
  have hc : (flN s j).c (j : Int) = s.c (j : Int) := by
    show (if (j : Int) < (j : Int) then none else s.c (j : Int)) = _
    rw [if_neg (by omega)]
  rw [hc] at hb
  have ec : (fun x => if x = (j : Int) then none else (flN s j).c x) = (flN s (j + 1)).c := funext fun x => by
    show (if x = (j : Int) then none else if x < (j : Int) then none else s.c x) = if x < ((j + 1 : Nat) : Int) then none else s.c x
    by_cases h1 : x = (j : Int)
    · rw [if_pos h1, if_pos (by omega)]
    · rw [if_neg h1]
      by_cases h2 : x < (j : Int)
      · rw [if_pos h2, if_pos (by omega)]
      · rw [if_neg h2, if_neg (by omega)]
  have ek : (if b then kpA (flN s j) j else flN s j).k = (flN s (j + 1)).k := by
    cases hcj : s.c (j : Int) with
    | none =>
      rw [hcj] at hb
      subst hb
      show (flN s j).k = _
      refine List.ext_getElem? fun y => ?_
      show (s.k.mapIdx fun t l => if t < j then (s.c (t : Int)).getD l else l)[y]? = (s.k.mapIdx fun t l => if t < j + 1 then (s.c (t : Int)).getD l else l)[y]?
      rw [List.getElem?_mapIdx, List.getElem?_mapIdx]
      cases s.k[y]? with
      | none => rfl
      | some l =>
        simp only [Option.map_some]
        by_cases hy : y = j
        · subst hy
          rw [if_neg (by omega), if_pos (by omega), hcj]
          rfl
        · by_cases hy2 : y < j
          · rw [if_pos hy2, if_pos (by omega)]
          · rw [if_neg hy2, if_neg (by omega)]
    | some l0 =>
      rw [hcj] at hb
      subst hb
      show (kpA (flN s j) j).k = _
      unfold kpA
      simp only
      rw [hc, hcj]
      refine List.ext_getElem? fun y => ?_
      rw [List.getElem?_set]
      show (if j = y then if j < (flN s j).k.length then some ((some l0).getD ((flN s j).k.getD j [])) else none else (s.k.mapIdx fun t l => if t < j then (s.c (t : Int)).getD l else l)[y]?) = (s.k.mapIdx fun t l => if t < j + 1 then (s.c (t : Int)).getD l else l)[y]?
      rw [List.getElem?_mapIdx, List.getElem?_mapIdx, flN_len, if_pos hj]
      by_cases hy : j = y
      · subst hy
        rw [if_pos rfl]
        have : s.k[j]? = some (s.k[j]) := List.getElem?_eq_getElem hj
        rw [this]
        simp only [Option.map_some]
        rw [if_pos (by omega), hcj]
        rfl
      · rw [if_neg hy]
        cases s.k[y]? with
        | none => rfl
        | some l =>
          simp only [Option.map_some]
          by_cases hy2 : y < j
          · rw [if_pos hy2, if_pos (by omega)]
          · rw [if_neg hy2, if_neg (by omega)]
  have e0 : kp1 (flN s j) j b = { (if b then kpA (flN s j) j else flN s j) with c := fun x => if x = (j : Int) then none else (flN s j).c x } := by
    unfold kp1 kpB
    cases b <;> rfl
  rw [e0, ec]
  have ea : (if b then kpA (flN s j) j else flN s j).armed = s.armed := by cases b <;> rfl
  have el : (if b then kpA (flN s j) j else flN s j).left = s.left := by cases b <;> rfl
  exact ds_ext ek rfl ea el
theorem flN_all {s : Ds} (h : DOk s) : flN s s.k.length = flushed s := by
  unfold flN flushed kept
  have e1 : (s.k.mapIdx fun t l => if t < s.k.length then (s.c (t : Int)).getD l else l) = s.k.mapIdx fun j l => (s.c (j : Int)).getD l := List.ext_getElem? fun y => by
    rw [List.getElem?_mapIdx, List.getElem?_mapIdx]
    cases hy : s.k[y]? with
    | none => rfl
    | some l =>
      simp only [Option.map_some]
      rw [if_pos (List.getElem?_eq_some_iff.1 hy).1]
  have e2 : (fun x => if x < (s.k.length : Int) then none else s.c x) = fun _ => none := funext fun x => by
    split
    · rfl
    · cases hx : s.c x with
      | none => rfl
      | some l =>
        have := (h.key x l hx).2.1
        omega
  rw [e1, e2]

section
variable {w w' : World} {P S Z : Nat → Prop} {g kb wb ib n : Nat} {s : Ds} {v u : Value} {xs : List Int}
theorem rflush_off (h : Rdk Z w g kb wb ib n s) (ho : off s = true) : Calls Tryz.prog 39 #[.pointer (some ⟨g, 0, none⟩)] w fun e w' => e = .returned (.int .i64 19) ∧ Kp (Only g) w w' ∧ Rdk Z w' g kb wb ib n (calld s) := by
  go_enter Tryz.func39, Tryz.ntmps39
  go_wp2_with fail
  refine (rcall_any h).mono ?_
  rintro e w1 ⟨rfl, k1, D1, z1⟩
  rw [ho]
  go_wp2
  go_ret
  exact ⟨rfl, k1, D1⟩
set_option maxRecDepth 100000 in
set_option maxHeartbeats 1000000 in
theorem rflush_is (h : Rdk Z w g kb wb ib n s) (ho : off s = false) : Calls Tryz.prog 39 #[.pointer (some ⟨g, 0, none⟩)] w fun e w' => e = .returned (.int .i64 0) ∧ Kp (RB g kb wb ib) w w' ∧ Rdk Z w' g kb wb ib n (flushed (calld s)) := by
  have hlen : n ≤ 512 := by have := h.ok.len; rw [h.len] at this; exact this
  have hcall := rcall_any h
  obtain ⟨t, ht⟩ : ∃ t, calld s = t := ⟨_, rfl⟩
  rw [ht] at hcall ⊢
  go_enter Tryz.func39, Tryz.ntmps39
  go_wp2_with fail
  refine hcall.mono ?_
  rintro e w1 ⟨rfl, k1, D1, z1⟩
  rw [ho]
  have hok := D1.ok
  have hln := D1.len
  have HOK := hid hok
  have HLN := hid hln
  have D0 := hid (show Rdk Z w1 g kb wb ib n (flN t 0) by rw [flN_zero hok]; exact D1)
  have K0 := hid (k1.mono (T := RB g kb wb ib) fun j _ e => .inl e)
  clear h D1 k1 z1 hok hln ht hcall
  go_wp2_with fail
  go_loopw [4] (fun i wr => ∃ j : Nat, j ≤ n ∧ i = .int .i64 (j : Int) ∧ Hid (Rdk Z wr g kb wb ib n (flN t j)) ∧ Hid (Kp (RB g kb wb ib) w wr)) (fun i _ => n - (intOf i).toNat)
  case atStart => exact ⟨0, Nat.zero_le _, rfl, D0, K0⟩
  case round =>
    obtain ⟨j, hj, rfl, DR, KR⟩ := hrel
    clear D0 K0
    obtain ⟨ck, cw, ci, a1, a2, a3, a4, a5, a6, c0, c1, c2, _, _⟩ := DR.out.cells
    by_cases hjn : j < n
    · have hjn' : (j : Int) < (n : Int) := by omega
      obtain ⟨csi, hbi, hci⟩ := DR.out.ic
      have hv := hci j hjn
      have d2 : wr.cell? ⟨ib, j, none⟩ = some (.bool ((flN t j).c (j : Int)).isSome) := by rw [hbi.cell]; exact hv
      have hsum := wrapI (x := (j : Int) + 1) (by unfold I64; omega)
      obtain ⟨q, hq⟩ : ∃ q, ((flN t j).c (j : Int)).isSome = q := ⟨_, rfl⟩
      have HQ := hid hq
      rw [hq] at d2
      clear hbi hci hv hq
      go_wp2_with (first
        | (go_at_call 44
           refine (rkeep_any DR.out hjn q (fun e => HQ.out.trans e)).mono ?_
           rintro e w2 ⟨⟨x2, rfl⟩, k2, d2'⟩
           rw [flN_step j (by rw [HLN.out]; exact hjn) q HQ.out.symm] at d2'
           have D2 := hid d2'
           have K2 := hid (KR.out.trans k2)
           clear k2 d2' c0 c1 c2 d2))
      go_roundw
      case rel => exact ⟨j + 1, by omega, by go_num, D2, K2⟩
      case measure => simp [intOf]; omega
    · have hjn2 : j = n := by omega
      subst hjn2
      go_wp2
      go_ret
      refine ⟨rfl, KR.out, ?_⟩
      have := DR.out
      rw [← HLN.out, flN_all HOK.out, HLN.out] at this
      exact this
end
end Go.Proofs.YtgfkbkonelphaaaGreatDoor

/-
  Contracts of the document's disk: Waits, Crash.
-/
namespace Go.Proofs.YtgfkbkonelphaaaGreatDoor
open Go.RowKit

theorem usIn : Us Tryz.prog 80 3 1 8 (.int .i64 0) := ⟨by kernel_rfl, by kernel_rfl, by decide, by decide⟩
theorem zf_one (x : Int) (i : Nat) : (zf x i).oneCell' = true := rfl
theorem Rw.int1 (w : World) (t : TypeId) (x : Int) : Rw 1 zf 0 (w.alloc (.cells #[.int .i64 x] t)) Anyb (.slice (some ⟨w.heap.size, 0, none⟩) 1 1) [x] := by
  refine ⟨some ⟨w.heap.size, 0, none⟩, 1, rfl, by simp, by simp [maxLen], fun _ => ⟨w.heap.size, 0, rfl, (Blk.new w t #[.int .i64 x]).lt, trivial, fun j i hj hi => ?_⟩⟩
  have hj0 : j = 0 := by simpa using hj
  have hi0 : i = 0 := by omega
  subst hj0 hi0
  have := (Blk.new w t #[.int .i64 x]).cell 0
  simp only [Nat.zero_mul, Nat.add_zero]
  exact this
section
variable {w w' : World} {P S Z : Nat → Prop} {g kb wb ib n : Nat} {s : Ds} {v u : Value} {xs : List Int}
set_option maxRecDepth 100000 in
theorem rwaits_any (h : Rdk Z w g kb wb ib n s) : Calls Tryz.prog 43 #[.pointer (some ⟨g, 0, none⟩)] w fun e w' => ∃ v, e = .returned v ∧ Ow w' w.heap.size 3 1 zf v (waits s) ∧ Kp No w w' := by
  have hlen : n ≤ 512 := by have := h.ok.len; rw [h.len] at this; exact this
  have H := hid h
  have HLN := hid h.len
  clear h
  have O0 := hid (show Ow w w.heap.size 3 1 zf (.slice none 0 0) ((waitsN s.c 0).map fun i : Nat => (i : Int)) from Ow.nil _ _ _ _ _)
  go_enter Tryz.func43, Tryz.ntmps43
  go_wp2_with fail
  go_loopw [3, 4] (fun u i wr => ∃ j : Nat, j ≤ n ∧ i = .int .i64 (j : Int) ∧ Hid (Ow wr w.heap.size 3 1 zf u ((waitsN s.c j).map fun i : Nat => (i : Int))) ∧ Hid (Kp No w wr)) (fun _ i _ => n - (intOf i).toNat)
  case atStart => exact ⟨0, Nat.zero_le _, rfl, O0, hid (Kp.refl _ _)⟩
  case round =>
    obtain ⟨j, hj, rfl, OR, KR⟩ := hrel
    clear O0
    obtain ⟨ck, cw, ci, a1, a2, a3, a4, a5, a6, c0, c1, c2, _, _⟩ := (H.out.kp0 KR.out).cells
    obtain ⟨A, c, rfl⟩ := OR.out.formN (m := (waitsN s.c j).length) (by rw [List.length_map])
    have hwl : (waitsN s.c j).length ≤ j := by
      unfold waitsN
      exact Nat.le_trans (List.length_filter_le _ _) (by simp)
    obtain ⟨xs, hxs⟩ : ∃ xs, ((waitsN s.c j).map fun i : Nat => (i : Int)) = xs := ⟨_, rfl⟩
    have hxl : (waitsN s.c j).length = xs.length := by rw [← hxs, List.length_map]
    obtain ⟨q, hq⟩ : ∃ q, (waitsN s.c j).length = q := ⟨_, rfl⟩
    have HXS := hid hxs
    have HXL := hid (show xs.length = q by omega)
    rw [hxs, hq] at OR
    rw [hq] at hwl ⊢
    clear hxs hxl hq
    by_cases hjn : j < n
    · have hjn' : (j : Int) < (n : Int) := by omega
      obtain ⟨_, _, _, _, _, _, _, _, _, _, _, _, _, d2, _, _, _⟩ := (H.out.kp0 KR.out).spots hjn
      have hsum := wrapI (x := (j : Int) + 1) (by unfold I64; omega)
      have HN := hid (waitsN_succ s.c j)
      cases hc : (s.c (j : Int)).isSome with
      | false =>
        rw [hc] at d2
        rw [hc] at HN
        have OF := hid (show Ow wr w.heap.size 3 1 zf (.slice A q c) ((waitsN s.c (j + 1)).map fun i : Nat => (i : Int)) by
          rw [HN.out]
          simp only [Bool.false_eq_true, if_false, List.append_nil]
          rw [HXS.out]
          exact OR.out)
        clear hc
        go_wp2
        go_roundw
        case rel => exact ⟨j + 1, by omega, by go_num, OF, KR⟩
        case measure => simp [intOf]; omega
      | true =>
        rw [hc] at d2
        rw [hc] at HN
        clear hc
        go_wp2_with (first
          | (at_builtin
             refine wp_apps (d := 0) usIn zf_one rfl (.tmp 21) (.tmp 23) rfl (base := w.heap.size) (xs := xs) (ys := [(j : Int)]) (by exact OR.out.kp0 ((Kp.refl No _).alloc _)) (by exact Rw.int1 wr 3 (j : Int)) (by rw [HXL.out]; simp; omega) (by rw [HXL.out]; simp [maxLen]; omega) (by exact (KR.out.alloc _).size) ?_
             intro v' w' o' k'
             have O2 := hid (show Ow w' w.heap.size 3 1 zf v' ((waitsN s.c (j + 1)).map fun i : Nat => (i : Int)) by
               rw [HN.out]
               simp only [if_true, List.map_append]
               rw [HXS.out]
               exact o')
             have K2 := hid ((KR.out.alloc (.cells #[.int .i64 (j : Int)] 3)).step k' fun i hi h => absurd hi (Nat.not_lt.2 h))
             clear o' k'))
        go_roundw
        case rel => exact ⟨j + 1, by omega, by go_num, O2, K2⟩
        case measure => simp [intOf]; omega
    · have hjn2 : j = n := by omega
      subst hjn2
      go_wp2
      go_ret
      refine ⟨_, rfl, ?_, KR.out⟩
      have := OR.out
      rw [← HXS.out] at this
      unfold waits
      rw [HLN.out]
      exact this
/-- When so many of those that wait were gone through. -/
def crN (s : Ds) (keep : List Bool) (t : Nat) : Ds := { s with k := s.k.mapIdx fun j l => if cnt s.c j < t ∧ keep.getD (cnt s.c j) false = true then (s.c (j : Int)).getD l else l, c := fun x => if cnt s.c x.toNat < t then none else s.c x }
theorem crN_len (s : Ds) (keep : List Bool) (t : Nat) : (crN s keep t).k.length = s.k.length := by simp [crN]
theorem crN_zero (s : Ds) (keep : List Bool) : crN s keep 0 = s := by
  unfold crN
  have e1 : (s.k.mapIdx fun j l => if cnt s.c j < 0 ∧ keep.getD (cnt s.c j) false = true then (s.c (j : Int)).getD l else l) = s.k := List.ext_getElem? fun y => by
    rw [List.getElem?_mapIdx]
    cases s.k[y]? with
    | none => rfl
    | some l => simp
  have e2 : (fun x => if cnt s.c x.toNat < 0 then none else s.c x) = s.c := funext fun x => by rw [if_neg (by omega)]
  rw [e1, e2]
theorem cnt_uniq {s : Ds} {i x : Nat} (hc : (s.c (i : Int)).isSome = true) (hx : (s.c (x : Int)).isSome = true) (h : cnt s.c x = cnt s.c i) : x = i := by
  have r1 := rank_at (c := s.c) (n := max i x + 1) (i := x) (by omega) hx
  have r2 := rank_at (c := s.c) (n := max i x + 1) (i := i) (by omega) hc
  rw [h, r2] at r1
  exact (Option.some.inj r1).symm
theorem crN_at {s : Ds} {keep : List Bool} {i t : Nat} (hr : cnt s.c i = t) : (crN s keep t).c (i : Int) = s.c (i : Int) := by
  show (if cnt s.c (i : Int).toNat < t then none else s.c (i : Int)) = _
  rw [Int.toNat_natCast, hr, if_neg (by omega)]
theorem crN_step {s : Ds} (hok : DOk s) {keep : List Bool} {i t : Nat} (hi : i < s.k.length) (hc : (s.c (i : Int)).isSome = true) (hr : cnt s.c i = t) : kp1 (crN s keep t) i (keep.getD t false) = crN s keep (t + 1) := by
  obtain ⟨l0, hl0⟩ := Option.isSome_iff_exists.1 hc
  have ec : (fun x => if x = (i : Int) then none else (crN s keep t).c x) = (crN s keep (t + 1)).c := funext fun x => by
    show (if x = (i : Int) then none else if cnt s.c x.toNat < t then none else s.c x) = if cnt s.c x.toNat < t + 1 then none else s.c x
    by_cases h1 : x = (i : Int)
    · rw [if_pos h1, if_pos (by rw [h1, Int.toNat_natCast, hr]; omega)]
    · rw [if_neg h1]
      by_cases h2 : cnt s.c x.toNat < t
      · rw [if_pos h2, if_pos (by omega)]
      · rw [if_neg h2]
        by_cases h3 : cnt s.c x.toNat < t + 1
        · rw [if_pos h3]
          cases hx : s.c x with
          | none => rfl
          | some l =>
            obtain ⟨x0, _, _⟩ := hok.key x l hx
            exfalso
            apply h1
            have e1 : ((x.toNat : Nat) : Int) = x := by omega
            have := cnt_uniq (s := s) (i := i) (x := x.toNat) hc (by rw [e1, hx]; rfl) (by omega)
            omega
        · rw [if_neg h3]
  have eg : ∀ y, (crN s keep t).k[y]? = (s.k[y]?).map fun l => if cnt s.c y < t ∧ keep.getD (cnt s.c y) false = true then (s.c (y : Int)).getD l else l := fun y => by
    show (s.k.mapIdx _)[y]? = _
    rw [List.getElem?_mapIdx]
  have eg' : ∀ y, (crN s keep (t + 1)).k[y]? = (s.k[y]?).map fun l => if cnt s.c y < t + 1 ∧ keep.getD (cnt s.c y) false = true then (s.c (y : Int)).getD l else l := fun y => by
    show (s.k.mapIdx _)[y]? = _
    rw [List.getElem?_mapIdx]
  have hoth : ∀ y (l : List Int), (y ≠ i ∨ keep.getD t false = false) → (if cnt s.c y < t ∧ keep.getD (cnt s.c y) false = true then (s.c (y : Int)).getD l else l) = if cnt s.c y < t + 1 ∧ keep.getD (cnt s.c y) false = true then (s.c (y : Int)).getD l else l := fun y l hy => by
    by_cases h2 : cnt s.c y < t
    · by_cases h4 : keep.getD (cnt s.c y) false = true
      · rw [if_pos ⟨h2, h4⟩, if_pos ⟨by omega, h4⟩]
      · rw [if_neg fun e => h4 e.2, if_neg fun e => h4 e.2]
    · rw [if_neg fun e => h2 e.1]
      by_cases h3 : cnt s.c y < t + 1 ∧ keep.getD (cnt s.c y) false = true
      · rw [if_pos h3]
        have hyt : cnt s.c y = t := by omega
        cases hx : s.c (y : Int) with
        | none => rfl
        | some l1 =>
          exfalso
          rcases hy with hy | hy
          · exact hy (cnt_uniq (s := s) hc (by rw [hx]; rfl) (by omega))
          · rw [hyt, hy] at h3
            cases h3.2
      · rw [if_neg h3]
  have ek : (if keep.getD t false then kpA (crN s keep t) i else crN s keep t).k = (crN s keep (t + 1)).k := by
    refine List.ext_getElem? fun y => ?_
    cases hk : keep.getD t false with
    | false =>
      show (crN s keep t).k[y]? = _
      rw [eg, eg']
      congr 1
      exact funext fun l => hoth y l (.inr hk)
    | true =>
      show ((crN s keep t).k.set i (((crN s keep t).c (i : Int)).getD ((crN s keep t).k.getD i [])))[y]? = _
      rw [crN_at hr, hl0, List.getElem?_set, crN_len]
      by_cases hy : i = y
      · subst hy
        rw [if_pos rfl, if_pos hi, eg', List.getElem?_eq_getElem hi]
        simp only [Option.map_some]
        rw [if_pos ⟨by omega, by rw [hr]; exact hk⟩, hl0]
        rfl
      · rw [if_neg hy, eg, eg']
        congr 1
        exact funext fun l => hoth y l (.inl fun e => hy e.symm)
  have e0 : kp1 (crN s keep t) i (keep.getD t false) = { (if keep.getD t false then kpA (crN s keep t) i else crN s keep t) with c := fun x => if x = (i : Int) then none else (crN s keep t).c x } := by
    unfold kp1 kpB
    cases keep.getD t false <;> rfl
  rw [e0, ec]
  refine ds_ext ek rfl ?_ ?_
  · show (if keep.getD t false then kpA (crN s keep t) i else crN s keep t).armed = s.armed
    cases keep.getD t false <;> rfl
  · show (if keep.getD t false then kpA (crN s keep t) i else crN s keep t).left = s.left
    cases keep.getD t false <;> rfl
theorem cnt_lt {s : Ds} {j : Nat} (hj : j < s.k.length) (hc : (s.c (j : Int)).isSome = true) : cnt s.c j < (waits s).length := by
  have r1 := rank_at (c := s.c) (n := s.k.length) hj hc
  unfold waits
  rw [List.length_map]
  exact (List.getElem?_eq_some_iff.1 r1).1
theorem crN_all {s : Ds} (hok : DOk s) (keep : List Bool) : { crN s keep (waits s).length with armed := false } = crashed s keep := by
  refine ds_ext ?_ ?_ rfl rfl
  · show (s.k.mapIdx fun j l => if cnt s.c j < (waits s).length ∧ keep.getD (cnt s.c j) false = true then (s.c (j : Int)).getD l else l) = s.k.mapIdx fun j l => (dropAt s keep (waits s).length (j : Int)).getD l
    refine List.ext_getElem? fun y => ?_
    rw [List.getElem?_mapIdx, List.getElem?_mapIdx]
    cases hy : s.k[y]? with
    | none => rfl
    | some l =>
      simp only [Option.map_some]
      have hyl := (List.getElem?_eq_some_iff.1 hy).1
      unfold dropAt
      rw [Int.toNat_natCast]
      cases hc : s.c (y : Int) with
      | none => simp
      | some l1 =>
        have := cnt_lt hyl (by rw [hc]; rfl)
        cases hk : keep.getD (cnt s.c y) false with
        | false => rw [if_neg (by simp), if_pos ⟨this, rfl⟩]; rfl
        | true => rw [if_pos ⟨this, rfl⟩, if_neg (by simp)]
  · show (fun x => if cnt s.c x.toNat < (waits s).length then none else s.c x) = fun _ => none
    funext x
    split
    · rfl
    · rename_i h
      cases hx : s.c x with
      | none => rfl
      | some l =>
        obtain ⟨x0, x1, _⟩ := hok.key x l hx
        have e1 : ((x.toNat : Nat) : Int) = x := by omega
        exact absurd (cnt_lt (s := s) (j := x.toNat) (by omega) (by rw [e1, hx]; rfl)) h
end
section
variable {w w' : World} {P S Z : Nat → Prop} {g kb wb ib n : Nat} {s : Ds} {v u : Value} {xs : List Int}
set_option maxHeartbeats 1000000 in
set_option maxRecDepth 100000 in
theorem rcrash_any (h : Rdk Z w g kb wb ib n s) {kv : Value} {P : Nat → Prop} {keep : List Bool} (hkv : Sl Value.bool false w P kv keep) (hPm : ∀ i, RB g kb wb ib i → ¬ P i) : Calls Tryz.prog 17 #[.pointer (some ⟨g, 0, none⟩), kv] w fun e w' => (∃ v, e = .returned v) ∧ Kp (RB g kb wb ib) w w' ∧ Rdk Z w' g kb wb ib n (crashed s keep) := by
  obtain ⟨A, c, rfl, hc, hm, hr⟩ := hkv
  unfold maxLen at hm
  have hlen : n ≤ 512 := by have := h.ok.len; rw [h.len] at this; exact this
  have hwl := waits_len s
  have HLN := hid h.len
  have HOK := hid h.ok
  rw [h.len] at hwl
  have O := hid h
  clear h
  obtain ⟨nk, hn⟩ : ∃ nk, keep.length = nk := ⟨_, rfl⟩
  have HN := hid hn
  have HR := hid hr
  rw [hn] at hc ⊢
  clear hn hr
  go_enter Tryz.func17, Tryz.ntmps17
  go_wp2_with fail
  refine (rwaits_any O.out).mono ?_
  rintro e w1 ⟨v, rfl, ow, k1⟩
  obtain ⟨A', c', rfl, hc', hm', hr'⟩ := ow.sl
  unfold maxLen at hm'
  have HW := hid hr'
  obtain ⟨q, hq⟩ : ∃ q, (waits s).length = q := ⟨_, rfl⟩
  have HQ := hid hq
  rw [hq] at hwl hc' ⊢
  have D1 := hid (O.out.kp0 k1)
  have K1 := hid k1
  have hO := O.out.cells
  have hbase : g < w.heap.size ∧ kb < w.heap.size ∧ wb < w.heap.size ∧ ib < w.heap.size := by
    obtain ⟨_, _, _, _, _, _, _, _, _, hbg⟩ := O.out.hd
    obtain ⟨_, hbk, _⟩ := O.out.kc
    obtain ⟨_, hbw, _⟩ := O.out.wc
    obtain ⟨_, hbi, _⟩ := O.out.ic
    exact ⟨hbg.lt, hbk.lt, hbw.lt, hbi.lt⟩
  clear hr' hq ow k1 hO
  go_wp2_with fail
  go_loopw [5] (fun i wr => ∃ k : Nat, k ≤ q ∧ i = .int .i64 (k : Int) ∧ Hid (Rdk Z wr g kb wb ib n (crN s keep k)) ∧ Hid (Kp (RB g kb wb ib) w1 wr)) (fun i _ => q - (intOf i).toNat)
  case atStart => exact ⟨0, Nat.zero_le _, rfl, hid (by rw [crN_zero]; exact D1.out), hid (Kp.refl _ w1)⟩
  case round =>
    obtain ⟨k, hk, rfl, DK, KK⟩ := hrel
    by_cases hkq : k < q
    · have hkq' : (k : Int) < (q : Int) := by omega
      obtain ⟨i, hi, hin, hci, hri⟩ := waits_at (s := s) (k := k) (by rw [HQ.out]; exact hkq)
      obtain ⟨b', o', rfl, hb', hbas, hcell⟩ := HW.out (by rw [HQ.out]; omega)
      have hcw := (KK.out.cell (p := ⟨b', o' + k, none⟩) hb' (fun e => by rcases e with e | e | e | e <;> (simp only at e; omega))).trans (hcell k (by rw [HQ.out]; exact hkq))
      rw [hi] at hcw
      have hcw' : wr.drew.cell? ⟨b', o' + k, none⟩ = _ := hcw
      rw [HLN.out] at hin
      have HST := hid (crN_step (s := s) (keep := keep) HOK.out (by rw [HLN.out]; exact hin) hci hri)
      have HCI := hid (show ((crN s keep k).c (i : Int)).isSome = true by rw [crN_at hri]; exact hci)
      have hsum := wrapI (x := (k : Int) + 1) (by unfold I64; omega)
      clear hcell hi hci hri
      by_cases hlt : k < nk
      · have hlt' : (k : Int) < (nk : Int) := by omega
        obtain ⟨kb', ko, rfl, hkb, hPk, hkc⟩ := HR.out (by rw [HN.out]; omega)
        have hkcell := (KK.out.cell (p := ⟨kb', ko + k, none⟩) (by have := K1.out.size; show kb' < w1.heap.size; omega) (fun e => hPm _ e hPk)).trans ((K1.out.cell (p := ⟨kb', ko + k, none⟩) hkb (fun h => h)).trans (hkc k (by rw [HN.out]; exact hlt)))
        obtain ⟨bk, hbk⟩ : ∃ bk, keep.getD k false = bk := ⟨_, rfl⟩
        rw [hbk] at hkcell HST
        have hkcell' : wr.drew.cell? ⟨kb', ko + k, none⟩ = _ := hkcell
        clear hkc hbk
        go_wp2_with fail
        refine region_tail 15 (by kernel_rfl) (by kernel_rfl) ?_
        simp only [List.take_succ_cons, List.take_zero, List.drop_succ_cons, List.drop_zero]
        repeat still_step
        refine wpStill_nil ?_
        go_wp2_with (first
          | (go_at_call 44
             refine (rkeep_any (DK.out.kp0 (Kp.refl No _).drew) hin bk (fun _ => HCI.out)).mono ?_
             rintro e w2 ⟨⟨x2, rfl⟩, k2, d2⟩
             rw [HST.out] at d2
             have D2 := hid d2
             have K2 := hid (KK.out.drew.trans k2)
             clear k2 d2 hcw hkcell hcw' hkcell'))
        go_roundw
        case rel => exact ⟨k + 1, by omega, by go_num, D2, K2⟩
        case measure => simp [intOf]; omega
      · have hlt' : ¬ (k : Int) < (nk : Int) := by omega
        have hb : keep.getD k false = false := by
          rw [List.getD_eq_getElem?_getD, List.getElem?_eq_none (by rw [HN.out]; omega)]
          rfl
        rw [hb] at HST
        clear hb
        go_wp2_with fail
        refine region_tail 15 (by kernel_rfl) (by kernel_rfl) ?_
        simp only [List.take_succ_cons, List.take_zero, List.drop_succ_cons, List.drop_zero]
        repeat still_step
        refine wpStill_nil ?_
        go_wp2_with (first
          | (go_at_call 44
             refine (rkeep_any (DK.out.kp0 (Kp.refl No _).drew) hin false (fun _ => HCI.out)).mono ?_
             rintro e w2 ⟨⟨x2, rfl⟩, k2, d2⟩
             rw [HST.out] at d2
             have D2 := hid d2
             have K2 := hid (KK.out.drew.trans k2)
             clear k2 d2 hcw hcw'))
        go_roundw
        case rel => exact ⟨k + 1, by omega, by go_num, D2, K2⟩
        case measure => simp [intOf]; omega
    · obtain rfl : k = q := by omega
      obtain ⟨_, _, _, _, _, _, _, _, _, _, _, _, c3, f3⟩ := DK.out.cells
      have HL := hid (DK.out.left (t := { crN s keep k with armed := false }) rfl rfl ⟨DK.out.ok.len, DK.out.ok.sec, DK.out.ok.key, DK.out.ok.l0, DK.out.ok.l1⟩ (x := -1) rfl)
      have HC := hid (crN_all (s := s) HOK.out keep)
      go_wp2
      have he := HC.out
      rw [HQ.out] at he
      have hf := HL.out
      rw [he] at hf
      exact bodyPost_end (results_none rfl _ _ _) rfl ⟨⟨_, rfl⟩, K1.out.all.trans (KK.out.trans (hf.1.mono fun i _ e => .inl e)), hf.2⟩
end
end Go.Proofs.YtgfkbkonelphaaaGreatDoor

/-
  Contracts of the document's disk: Rot.
-/
namespace Go.Proofs.YtgfkbkonelphaaaGreatDoor
open Go.RowKit

theorem wrap_u8 {x : Int} (h0 : 0 ≤ x) (h1 : x ≤ 255) : IntKind.u8.wrap x = x := by rw [IntKind.wrap_u8]; omega
theorem bs_getD' {xs : List Int} (h : ∀ x ∈ xs, 0 ≤ x ∧ x ≤ 255) (i : Nat) : 0 ≤ xs.getD i 0 ∧ xs.getD i 0 ≤ 255 := by
  rw [List.getD_eq_getElem?_getD]
  cases hi : xs[i]? with
  | none => simp
  | some y => exact h y (List.mem_of_getElem? hi)
theorem flip_pm : ∀ r : Fin 8, ∀ x : Fin 256, (x.val ^^^ 2 ^ r.val : Nat) = if x.val / 2 ^ r.val % 2 = 1 then x.val - 2 ^ r.val else x.val + 2 ^ r.val := by decide +kernel
theorem flip_sum {r x : Nat} (hr : r < 8) (hx : x < 256) : flip r (x : Int) = if x / 2 ^ r % 2 = 1 then (x : Int) - ((2 ^ r : Nat) : Int) else (x : Int) + ((2 ^ r : Nat) : Int) := by
  rw [flip_nat hr hx, flip_pm ⟨r, hr⟩ ⟨x, hx⟩]
  simp only
  split
  · rename_i h
    have : 2 ^ r ≤ x := by
      rcases Nat.lt_or_ge x (2 ^ r) with h1 | h1
      · rw [Nat.div_eq_of_lt h1] at h
        omega
      · exact h1
    omega
  · omega
section
variable {w w' : World} {P S Z : Nat → Prop} {g kb wb ib n : Nat} {s : Ds} {v u : Value} {xs l : List Int}
/-- Other bytes are kept. -/
theorem Rdk.putK (h : Rdk Z w g kb wb ib n s) {i : Nat} (hi : i < n) (hu : Byt w (Nq Z g kb wb ib) u l) (hl : Sec l) : Kp (RB g kb wb ib) w (w.setCell ⟨kb, i, none⟩ u) ∧ Rdk Z (w.setCell ⟨kb, i, none⟩ u) g kb wb ib n { s with k := s.k.set i l } := by
  have k := Kp.set1 kb i w u
  have hno : ∀ j, Nq Z g kb wb ib j → ¬ Only kb j := fun j hj e => hj.2.1 e
  obtain ⟨ck, cw, ci, a1, a2, a3, a4, a5, a6, hb⟩ := h.hd
  obtain ⟨csk, hbk, hck⟩ := h.kc
  have hlen := h.len
  refine ⟨k.mono fun j _ e => .inr (.inl e), ⟨⟨ck, cw, ci, a1, a2, a3, a4, a5, a6, hb.kp k fun e => h.gk e⟩, ?_, h.wc.kp k (fun e => h.kw (Eq.symm e)) hno, h.ic.kp k (fun e => h.ki (Eq.symm e)), h.gk, h.gw, h.gi, h.kw, h.ki, h.wi, h.zs, by simp [hlen], ?_⟩⟩
  · refine ⟨csk.setIfInBounds i u, hbk.put i u, fun j hj => ?_⟩
    obtain ⟨v1, hv1, by1⟩ := hck j hj
    by_cases hji : j = i
    · subst hji
      rw [getD_set_self (by omega)]
      exact ⟨u, by rw [Array.getElem?_setIfInBounds_self_of_lt (Array.getElem?_eq_some_iff.1 hv1).1], hu.kp k hno⟩
    · rw [getD_set_ne fun e => hji e.symm]
      exact ⟨v1, by rw [Array.getElem?_setIfInBounds_ne (fun e => hji e.symm)]; exact hv1, by1.kp k hno⟩
  · have hok := h.ok
    refine ⟨by simp; exact hok.len, fun l' hl' => ?_, fun j l' hl' => ?_, hok.l0, hok.l1⟩
    · rcases List.mem_or_eq_of_mem_set hl' with h1 | h1
      · exact hok.sec l' h1
      · rw [h1]
        exact hl
    · have := hok.key j l' hl'
      exact ⟨this.1, by simp; exact this.2.1, this.2.2⟩

set_option maxRecDepth 100000 in
theorem rrot_no (h : Rdk Z w g kb wb ib n s) {i t : Int} (hn : i < 0 ∨ (n : Int) ≤ i ∨ t < 0 ∨ 512 ≤ t) : Calls Tryz.prog 19 #[.pointer (some ⟨g, 0, none⟩), .int .i64 i, .int .i64 t] w fun e w' => (∃ v, e = .returned v) ∧ Kp No w w' := by
  obtain ⟨ck, cw, ci, a1, a2, a3, a4, a5, a6, c0, _⟩ := h.cells
  clear h
  by_cases h1 : i < 0
  · go_enter Tryz.func19, Tryz.ntmps19
    go_wp2
    exact bodyPost_ret (results_none rfl _ _ _) rfl ⟨⟨_, rfl⟩, Kp.refl _ _⟩
  · by_cases h2 : (n : Int) ≤ i
    · go_enter Tryz.func19, Tryz.ntmps19
      go_wp2
      exact bodyPost_ret (results_none rfl _ _ _) rfl ⟨⟨_, rfl⟩, Kp.refl _ _⟩
    · by_cases h3 : t < 0
      · have h2' : ¬ i ≥ (n : Int) := by omega
        go_enter Tryz.func19, Tryz.ntmps19
        go_wp2
        exact bodyPost_ret (results_none rfl _ _ _) rfl ⟨⟨_, rfl⟩, Kp.refl _ _⟩
      · have h2' : ¬ i ≥ (n : Int) := by omega
        have h4 : 511 < t := by omega
        go_enter Tryz.func19, Tryz.ntmps19
        go_wp2
        exact bodyPost_ret (results_none rfl _ _ _) rfl ⟨⟨_, rfl⟩, Kp.refl _ _⟩
set_option maxHeartbeats 1000000 in
set_option maxRecDepth 100000 in
theorem rrot_is (h : Rdk Z w g kb wb ib n s) {i t : Nat} (hi : i < n) (ht : t < 512) (hz : ∀ j, w.heap.size ≤ j → ¬ Z j) : Calls Tryz.prog 19 #[.pointer (some ⟨g, 0, none⟩), .int .i64 (i : Int), .int .i64 (t : Int)] w fun e w' => (∃ v, e = .returned v) ∧ Kp (RB g kb wb ib) w w' ∧ Rdk Z w' g kb wb ib n (rotted s i t) := by
  have hlen : n ≤ 512 := by have := h.ok.len; rw [h.len] at this; exact this
  have hi' : (i : Int) < (n : Int) := by omega
  have ht' : ¬ (511 : Int) < (t : Int) := by omega
  obtain ⟨ck, cw, ci, a1, a2, a3, a4, a5, a6, c0, _⟩ := h.cells
  obtain ⟨csk, hbk, hck⟩ := h.kc
  obtain ⟨vk, hvk, byk⟩ := hck i hi
  have d0 : w.cell? ⟨kb, i, none⟩ = some vk := by rw [hbk.cell]; exact hvk
  have hsec : Sec (s.k.getD i []) := h.ok.sec _ (by simp [List.getD, show i < s.k.length by rw [h.len]; exact hi])
  obtain ⟨xs, hxs⟩ : ∃ xs, s.k.getD i [] = xs := ⟨_, rfl⟩
  rw [hxs] at byk hsec
  have HXS := hid hxs
  have hxl := hsec.len
  obtain ⟨A, c, rfl, _⟩ := id byk
  have HB := hid byk
  have HS := hid hsec
  have H := hid h
  have HZ := hid hz
  rw [hxl] at d0 HB
  have HXL := hid hxl
  obtain ⟨p, hpt⟩ : ∃ p, t / 8 = p := ⟨_, rfl⟩
  obtain ⟨r, hrt⟩ : ∃ r, t % 8 = r := ⟨_, rfl⟩
  have hq : (t : Int) / 8 = (p : Int) := by omega
  have hr : (t : Int).tmod 8 = (r : Int) := by rw [Int.tmod_eq_emod_of_nonneg (by omega)]; omega
  have hp : p < 64 := by omega
  have hr8 : r < 8 := by omega
  have hwp := wrapI (x := (p : Int)) (by unfold I64; omega)
  have hwr := wrapI (x := (r : Int)) (by unfold I64; omega)
  have HP := hid hpt
  have HR := hid hrt
  have HROT := hid (show Sec (rotL xs t) from (rotted_ok h.ok (show i < s.k.length by rw [h.len]; exact hi) t).sec _ (by
    unfold rotted
    rw [hxs]
    exact List.mem_iff_getElem.2 ⟨i, by simp; rw [h.len]; exact hi, by simp⟩))
  clear hpt hrt h hbk hck hvk byk hsec hxs hxl hz
  have c0' : (w.alloc (.cells #[] 5)).cell? ⟨g, 0, none⟩ = _ := (((Kp.refl No w).alloc (.cells #[] 5)).cell (p := ⟨g, 0, none⟩) (World.block_lt_of_cell? w _ c0) fun h => h).trans c0
  have d0' : (w.alloc (.cells #[] 5)).cell? ⟨kb, i, none⟩ = _ := (((Kp.refl No w).alloc (.cells #[] 5)).cell (p := ⟨kb, i, none⟩) (World.block_lt_of_cell? w _ d0) fun h => h).trans d0
  go_enter Tryz.func19, Tryz.ntmps19
  go_wp2_with (first
    | (at_builtin
       refine wp_app isU8 rfl (.tmp 28) (.tmp 35) rfl (base := w.heap.size) (xs := []) (ys := xs) (by exact Own.mt _ _) (by exact HB.out.kp0 ((Kp.refl _ _).alloc _)) (by rw [HXL.out]; simp) (by simp) ?_
       intro v2 w2 o2 k2
       rw [List.nil_append] at o2
       have K2 := hid (((Kp.refl No w).alloc (.cells #[] 5)).step k2 fun j hj h => absurd hj (Nat.not_lt.2 h))
       obtain ⟨q, c2, hv2, hqb, hcm2, hcl2, hsp, hfr⟩ := o2.spot (by rw [HXL.out]; omega)
       rw [HXL.out] at hv2 hcl2
       subst hv2
       have hcell := hsp p (by rw [HXL.out]; omega)
       have hfr2 := hfr p
       have O2 := hid o2
       unfold maxLen at hcm2
       clear o2 k2 hsp hfr c0' d0'))
  obtain ⟨x, hx⟩ : ∃ x : Nat, xs.getD p 0 = (x : Int) := ⟨(xs.getD p 0).toNat, by have := bs_getD' HS.out.rg p; omega⟩
  have hx255 : x < 256 := by have := bs_getD' HS.out.rg p; omega
  rw [hx] at hcell
  have HX := hid hx
  clear hx
  go_loopw [7, 8] (fun sc k wr => ∃ j : Nat, j ≤ r ∧ k = .int .i64 (j : Int) ∧ sc = .int .u8 ((2 ^ j : Nat) : Int) ∧ wr = w2) (fun _ k _ => r - (intOf k).toNat)
  case atStart => exact ⟨0, Nat.zero_le _, rfl, rfl, rfl⟩
  case round =>
    obtain ⟨j, hj, rfl, rfl, rfl⟩ := hrel
    by_cases hjr : j < r
    · have hjr' : (j : Int) < (r : Int) := by omega
      have hsum := wrapI (x := (j : Int) + 1) (by unfold I64; omega)
      have hz : (2 ^ (j + 1) : Nat) = 2 ^ j * 2 := Nat.pow_succ 2 j
      have hz2 : (2 ^ (j + 1) : Nat) ≤ 2 ^ 7 := Nat.pow_le_pow_right (by omega) (by omega)
      obtain ⟨y, hy⟩ : ∃ y : Nat, 2 ^ j = y := ⟨_, rfl⟩
      obtain ⟨z, hz'⟩ : ∃ z : Nat, 2 ^ (j + 1) = z := ⟨_, rfl⟩
      have HZ' := hid hz'
      rw [hy, hz'] at hz
      rw [hz'] at hz2
      rw [hy]
      have hwz : IntKind.u8.wrap ((y : Int) * 2) = (z : Int) := by rw [show (y : Int) * 2 = (z : Int) by omega]; exact wrap_u8 (by omega) (by omega)
      clear hy hz'
      go_wp2_with fail
      go_roundw
      case rel =>
        refine ⟨j + 1, by omega, by go_num, ?_⟩
        simp only [and_true]
        rw [HZ'.out, show (y : Int) * 2 = (z : Int) by omega]
      case measure => simp [intOf]; omega
    · have hjr2 : j = r := by omega
      subst hjr2
      obtain ⟨y, hy⟩ : ∃ y : Nat, 2 ^ j = y := ⟨_, rfl⟩
      have hy0 : 0 < y := by rw [← hy]; exact Nat.two_pow_pos j
      have hy7 : y ≤ 128 := by rw [← hy]; exact Nat.pow_le_pow_right (by omega) (show j ≤ 7 by omega)
      have hfl := flip_sum (r := j) (x := x) hr8 hx255
      have hfr3 := flip_rg (r := j) (x := (x : Int)) hr8 (by omega) (by omega)
      obtain ⟨f, hf⟩ : ∃ f, flip j (x : Int) = f := ⟨_, rfl⟩
      rw [hf] at hfl hfr3
      have HF := hid hf
      rw [hy] at hfl ⊢
      obtain ⟨d, hd⟩ : ∃ d, x / y = d := ⟨_, rfl⟩
      rw [hd] at hfl
      have hdx : d ≤ x := by rw [← hd]; exact Nat.div_le_self _ _
      have hq1 : (x : Int).tdiv (y : Int) = (d : Int) := by rw [← hd]; rfl
      have hq2 : (x : Int) / (y : Int) = (d : Int) := by rw [← hd]; rfl
      have hwd : IntKind.u8.wrap (d : Int) = (d : Int) := wrap_u8 (by omega) (by omega)
      have hy1 : ¬ (y : Int) = 0 := by omega
      have hy2 : ((y : Int) == 0) = false := by simp; omega
      have FIN := hid (show ∀ w3, w3 = wr.setCell ⟨q, p, none⟩ (.int .u8 f) → Kp No w w3 ∧ Own w3 w.heap.size 5 (.slice (some ⟨q, 0, none⟩) 64 c2) (rotL xs t) from fun w3 e => by
        subst e
        refine ⟨K2.out.setCell (p := ⟨q, p, none⟩) (.inr hqb) _, ?_⟩
        have := O2.out.put p f hfr3
        unfold rotL
        rw [HP.out, HR.out, HX.out, HF.out]
        exact this)
      clear hf hy hd
      by_cases he : d % 2 = 1
      · have hm : (d : Int).tmod 2 = 1 := by rw [Int.tmod_eq_emod_of_nonneg (by omega)]; omega
        rw [if_pos he] at hfl
        have hwf : IntKind.u8.wrap ((x : Int) - (y : Int)) = (x : Int) - (y : Int) := wrap_u8 (by omega) (by omega)
        subst hfl
        have hd2 := hm
        clear he HF HX hfr3 hdx hd2
        obtain ⟨K3, O3⟩ := FIN.out _ rfl
        have R3 := hid (H.out.kp0 K3)
        have e0 := (K3.cell (p := ⟨g, 0, none⟩) (World.block_lt_of_cell? w _ c0) fun h => h).trans c0
        have e1 := (K3.cell (p := ⟨kb, i, none⟩) (World.block_lt_of_cell? w _ d0) fun h => h).trans d0
        have e2 := R3.out.kc.choose_spec.1.frozen i
        have P3 := hid (R3.out.putK hi (O3.byt fun k hk => by
          have l1 := H.out.hd
          have l2 := H.out.kc
          have l3 := H.out.wc
          have l4 := H.out.ic
          obtain ⟨_, _, _, _, _, _, _, _, _, l1⟩ := l1
          obtain ⟨_, l2, _⟩ := l2
          obtain ⟨_, l3, _⟩ := l3
          obtain ⟨_, l4, _⟩ := l4
          have := l1.lt
          have := l2.lt
          have := l3.lt
          have := l4.lt
          exact ⟨by omega, by omega, by omega, by omega, HZ.out k hk⟩) HROT.out)
        have K3 := hid K3
        clear O3
        go_wp2
        refine bodyPost_end (results_none rfl _ _ _) rfl ⟨⟨_, rfl⟩, K3.out.all.trans P3.out.1, ?_⟩
        have e : rotted s i t = { s with k := s.k.set i (rotL xs t) } := by unfold rotted; rw [HXS.out]
        rw [e]
        exact P3.out.2
      · have hm : (d : Int).tmod 2 = 0 := by rw [Int.tmod_eq_emod_of_nonneg (by omega)]; omega
        rw [if_neg he] at hfl
        have hwf : IntKind.u8.wrap ((x : Int) + (y : Int)) = (x : Int) + (y : Int) := wrap_u8 (by omega) (by omega)
        subst hfl
        have hd2 := hm
        clear he HF HX hfr3 hdx hd2
        obtain ⟨K3, O3⟩ := FIN.out _ rfl
        have R3 := hid (H.out.kp0 K3)
        have e0 := (K3.cell (p := ⟨g, 0, none⟩) (World.block_lt_of_cell? w _ c0) fun h => h).trans c0
        have e1 := (K3.cell (p := ⟨kb, i, none⟩) (World.block_lt_of_cell? w _ d0) fun h => h).trans d0
        have e2 := R3.out.kc.choose_spec.1.frozen i
        have P3 := hid (R3.out.putK hi (O3.byt fun k hk => by
          have l1 := H.out.hd
          have l2 := H.out.kc
          have l3 := H.out.wc
          have l4 := H.out.ic
          obtain ⟨_, _, _, _, _, _, _, _, _, l1⟩ := l1
          obtain ⟨_, l2, _⟩ := l2
          obtain ⟨_, l3, _⟩ := l3
          obtain ⟨_, l4, _⟩ := l4
          have := l1.lt
          have := l2.lt
          have := l3.lt
          have := l4.lt
          exact ⟨by omega, by omega, by omega, by omega, HZ.out k hk⟩) HROT.out)
        have K3 := hid K3
        clear O3
        go_wp2
        refine bodyPost_end (results_none rfl _ _ _) rfl ⟨⟨_, rfl⟩, K3.out.all.trans P3.out.1, ?_⟩
        have e : rotted s i t = { s with k := s.k.set i (rotL xs t) } := by unfold rotted; rw [HXS.out]
        rw [e]
        exact P3.out.2
end
end Go.Proofs.YtgfkbkonelphaaaGreatDoor
