/-
  JD JJ JK: texts laid into one.
-/
import Derived.Test.YtggmdgdgljlddaaGreatDoorJC
import Derived.Test.YtggmdgdgljlddaaGreatDoorPLaw
import Derived.Test.YtggmdgdgljlddaaGreatDoorZCheck
import Derived.Test.YtggmdgdgljlddaaGreatDoorJI
import Derived.Deep.RegionHeldLaw
import Derived.Test.YtggmdgdgljlddaaGreatDoorZOpen

/-
  Contracts of image's Encode and Size.
-/
namespace Go.Proofs.YtggmdgdgljlddaaGreatDoor
open Go.RowKit

/-- What Encode tells: bytes of the call's own, or what is wrong. -/
def EncPost (gs : List GS) (ts : List TS) (w : World) (e : Ending) (w' : World) : Prop :=
  Kp No w w' ∧ ((checkS gs ts = 0 ∧ Can (secs gs ts) ∧ ∃ u, e = .returned (.tuple #[u, .int .i64 0]) ∧ Own w' w.heap.size 5 u (image (secs gs ts))) ∨
    (∃ x : Int, encE gs ts = x ∧ x ≠ 0 ∧ e = .returned (.tuple #[.slice none 0 0, .int .i64 x])))
theorem check_len {gs : List GS} {ts : List TS} (h : checkS gs ts = 0) : gs.length ≤ 4096 ∧ ts.length ≤ 4096 := by
  cases gs with
  | nil =>
    have h2 : (2 : Int) = 0 := h
    exact absurd h2 (by decide)
  | cons g0 gt =>
    have h1 := (check0 h).1
    omega
section
variable {w : World} {P : Nat → Prop} {v : Value} {gs : List GS} {ts : List TS}
theorem zcheck_is {x : Int} (h : Sce w P v gs ts) (hp : ∀ g ∈ gs, I64 g.id ∧ I64 g.par) (hpt : ∀ t ∈ ts, I64 t.gr) (hx : checkS gs ts = x) :
    Calls Tryz.prog 15 #[v] w fun e w' => e = .returned (.int .i64 x) ∧ Kp No w w' := by
  rw [← hx]
  exact zcheck_any h hp hpt
set_option maxRecDepth 100000 in
set_option maxHeartbeats 1000000 in
theorem encode_any (ht : Tab w) (h : Sce w P v gs ts) (hp : ∀ g ∈ gs, I64 g.id ∧ I64 g.par) (hpt : ∀ t ∈ ts, I64 t.gr) (hco : ∀ t ∈ ts, 0 ≤ t.co ∧ t.co ≤ 18446744073709551615) :
    Calls Tryz.prog 7 #[v] w (EncPost gs ts w) := by
  have HT0 := hid ht
  obtain ⟨vg, vt, rfl, hg, ht'⟩ := id h
  have k1 := (Kp.refl No w).alloc (.cells #[vg, vt] 25)
  have b1 := Blk.new w 25 #[vg, vt]
  obtain ⟨w1, hw1⟩ : ∃ w1, w.alloc (.cells #[vg, vt] 25) = w1 := ⟨_, rfl⟩
  rw [hw1] at k1 b1
  have K1 := hid k1
  have HS := hid (h.kp0 k1)
  have HT := hid (HT0.out.kp0 k1)
  have s0 := b1.cell 0
  have s1 := b1.cell 1
  simp only [List.getElem?_toArray, List.getElem?_cons_zero, List.getElem?_cons_succ] at s0 s1
  have B1 := hid b1
  obtain ⟨A, c, rfl, _⟩ := hg
  obtain ⟨A2, c2, rfl, _⟩ := ht'
  obtain ⟨x, hx⟩ : ∃ x, checkS gs ts = x := ⟨_, rfl⟩
  have HC := hid (zcheck_is HS.out hp hpt hx)
  have HX := hid hx
  have HCO := hid hco
  obtain ⟨n, hn⟩ : ∃ n, gs.length = n := ⟨_, rfl⟩
  obtain ⟨m, hm⟩ : ∃ m, ts.length = m := ⟨_, rfl⟩
  rw [hn] at HS HC B1 hw1 s0 ⊢
  rw [hm] at HS HC B1 hw1 s1 ⊢
  clear k1 b1 ht h hx hp hpt hco hn hm
  by_cases h0 : x = 0
  · subst h0
    have HLE := hid (check_len HX.out)
    go_enter Tryz.func7, Tryz.ntmps7
    go_upto_region 1 with fail
    clear hw1
    go_wp2_with (first
      | (go_at_call 15
         refine HC.out.mono ?_
         rintro e w2 ⟨rfl, k2⟩
         have K2 := hid (K1.out.trans k2)
         have S2 := hid (HS.out.kp0 k2)
         have T2 := hid (HT.out.kp0 k2)
         have b2 := B1.out.kp0 k2
         have s20 := b2.cell 0
         have s21 := b2.cell 1
         simp only [List.getElem?_toArray, List.getElem?_cons_zero, List.getElem?_cons_succ] at s20 s21
         clear k2 b2)
      | (go_at_call 16
         refine (sections_any S2.out (by have := HLE.out; omega) (by have := HLE.out; omega) HCO.out).mono ?_
         rintro e w3 ⟨u3, ss, rfl, hs3, p3, k3⟩
         have P3 := hid p3
         have HS3 := hid hs3
         have K3 := hid (K2.out.trans k3)
         have T3 := hid (T2.out.kp0 k3)
         clear p3 hs3 k3))
    refine (pack_any T3.out P3.out).mono ?_
    rintro e w4 ⟨k4, ⟨hC, u4, rfl, o4⟩ | ⟨y, hy, hy0, rfl⟩⟩
    · rw [HS3.out] at hC o4
      have K4 := hid (K3.out.trans k4)
      have HCN := hid hC
      have O4 := hid (o4.lower K3.out.size)
      clear hC o4 k4
      go_wp2_with fail
      go_ret2
      exact ⟨K4.out, .inl ⟨HX.out, HCN.out, _, rfl, O4.out⟩⟩
    · rw [HS3.out] at hy
      have K4 := hid (K3.out.trans k4)
      have HY := hid hy
      have HY0 := hid hy0
      clear hy k4 hy0
      go_wp2_with fail
      go_ret2
      exact ⟨K4.out, .inr ⟨y, by unfold encE; rw [if_pos HX.out]; exact HY.out, HY0.out, rfl⟩⟩
  · have hne : (x != 0) = true := by rw [bne_iff_ne]; exact h0
    have H0 := hid h0
    clear h0
    go_enter Tryz.func7, Tryz.ntmps7
    go_upto_region 1 with fail
    clear hw1
    go_wp2_with (first
      | (go_at_call 15
         refine HC.out.mono ?_
         rintro e w2 ⟨rfl, k2⟩
         have K2 := hid (K1.out.trans k2)
         clear k2))
    go_ret2
    exact ⟨K2.out, .inr ⟨x, by unfold encE; rw [if_neg (by rw [HX.out]; exact H0.out)]; exact HX.out, H0.out, rfl⟩⟩
set_option maxRecDepth 100000 in
theorem size_any (h : Sce w P v gs ts) (hl : gs.length ≤ 4096) (hlt : ts.length ≤ 4096) : Calls Tryz.prog 10 #[v] w fun e w' => e = .returned (.int .i64 (41 + (gs.length : Int) * 21 + (ts.length : Int) * 35)) ∧ Kp No w w' := by
  obtain ⟨vg, vt, rfl, hg, ht⟩ := h
  obtain ⟨A, c, rfl, _⟩ := hg
  obtain ⟨A2, c2, rfl, _⟩ := ht
  obtain ⟨n, hn⟩ : ∃ n, gs.length = n := ⟨_, rfl⟩
  obtain ⟨m, hm⟩ : ∃ m, ts.length = m := ⟨_, rfl⟩
  rw [hn] at hl ⊢
  rw [hm] at hlt ⊢
  have K0 := hid ((Kp.refl No w).alloc (.cells #[.slice A n c, .slice A2 m c2] 25))
  have e1 := wrapI (x := (n : Int) * 21) (by unfold I64; omega)
  have e2 := wrapI (x := (m : Int) * 35) (by unfold I64; omega)
  have e3 := wrapI (x := 41 + (n : Int) * 21) (by unfold I64; omega)
  have e4 := wrapI (x := 41 + (n : Int) * 21 + (m : Int) * 35) (by unfold I64; omega)
  clear hn hm
  go_enter Tryz.func10, Tryz.ntmps10
  go_wp2_with fail
  go_ret
  exact ⟨rfl, K0.out⟩
end
end Go.Proofs.YtggmdgdgljlddaaGreatDoor

/-
  Contract of image's Decode.
-/
namespace Go.Proofs.YtggmdgdgljlddaaGreatDoor
open Go.RowKit Go.Shelf

def parseD (a b c d : List Int) : Bool × List GS × List TS := match parse a b c d with | none => (false, [], []) | some (gs, ts) => (true, gs, ts)
theorem ofSecs_kinds {l : List Sn} (h : l.map Sn.kind ≠ [1, 2, 3, 4]) : ofSecs l = (21, [], []) := by
  match l, h with
  | [⟨k1, a⟩, ⟨k2, b⟩, ⟨k3, c⟩, ⟨k4, d⟩], h =>
    unfold ofSecs
    simp only
    rw [if_neg]
    rintro ⟨rfl, rfl, rfl, rfl⟩
    exact h rfl
  | [], _ => rfl
  | [_], _ => rfl
  | [_, _], _ => rfl
  | [_, _, _], _ => rfl
  | _ :: _ :: _ :: _ :: _ :: _, _ => rfl
theorem ofSecs_four (a b c d : List Int) {r : Bool} {gs : List GS} {ts : List TS} (h : parseD a b c d = (r, gs, ts)) : ofSecs [⟨1, a⟩, ⟨2, b⟩, ⟨3, c⟩, ⟨4, d⟩] = if r = false then (5, [], []) else if checkS gs ts = 0 then (0, gs, ts) else (checkS gs ts, [], []) := by
  unfold parseD at h
  unfold ofSecs
  simp only [and_self, if_true]
  cases hp : parse a b c d with
  | none =>
    rw [hp] at h
    simp only [Prod.mk.injEq] at h
    rw [← h.1]
    rfl
  | some x =>
    obtain ⟨gs', ts'⟩ := x
    rw [hp] at h
    simp only [Prod.mk.injEq] at h
    obtain ⟨rfl, rfl, rfl⟩ := h
    rfl
theorem parseD_bd {a b c d : List Int} {r : Bool} {gs : List GS} {ts : List TS} (h : parseD a b c d = (r, gs, ts)) (ha : Bs a) (hb : Bs b) (hc : Bs c) : (∀ g ∈ gs, GR g) ∧ (∀ t ∈ ts, 0 ≤ t.gr ∧ t.gr < 16777216) ∧ gs.length ≤ a.length ∧ ts.length ≤ c.length := by
  unfold parseD parse at h
  by_cases hp : pairB a.length 9 b.length 12 = true ∧ pairB c.length 27 d.length 8 = true
  · rw [if_pos hp] at h
    cases ht : tsOf (c.length / 27) c d with
    | none =>
      rw [ht] at h
      simp only [Option.map_none, Prod.mk.injEq] at h
      obtain ⟨_, rfl, rfl⟩ := h
      exact ⟨fun g hg => (by cases hg), fun t ht => (by cases ht), Nat.zero_le _, Nat.zero_le _⟩
    | some l =>
      rw [ht] at h
      simp only [Option.map_some, Prod.mk.injEq] at h
      obtain ⟨_, rfl, rfl⟩ := h
      refine ⟨gsOf_bd _ ha hb, tsOf_bd _ ht hc, ?_, ?_⟩
      · rw [gsOf_len]; exact Nat.div_le_self ..
      · rw [tsOf_len _ ht]; exact Nat.div_le_self ..
  · rw [if_neg hp] at h
    simp only [Prod.mk.injEq] at h
    obtain ⟨_, rfl, rfl⟩ := h
    exact ⟨fun g hg => (by cases hg), fun t ht => (by cases ht), Nat.zero_le _, Nat.zero_le _⟩
/-- What takeScene tells, in one form. -/
def TS2 (r : Bool) (gs : List GS) (ts : List TS) (w : World) (e : Ending) (w' : World) : Prop :=
  ∃ vg vt, e = .returned (.tuple #[.agg #[vg, vt], .bool r]) ∧ Ow w' w.heap.size 45 6 gc vg gs ∧ Ow w' w.heap.size 53 8 tc vt ts ∧ Kp No w w'
theorem takescene_is {w : World} {P Q R S : Nat → Prop} {va vb vc vd : Value} {a b c d : List Int} {r : Bool} {gs : List GS} {ts : List TS} (h : parseD a b c d = (r, gs, ts)) (ha : Byt w P va a) (hb : Byt w Q vb b) (hc : Byt w R vc c) (hd : Byt w S vd d) (la : a.length ≤ 100000) (lb : b.length ≤ 100000) (lc : c.length ≤ 100000) (ld : d.length ≤ 100000) :
    Calls Tryz.prog 24 #[va, vb, vc, vd] w (TS2 r gs ts w) := by
  refine (takescene_any ha hb hc hd la lb lc ld).mono ?_
  rintro e w' ⟨hk, ⟨hp, rfl⟩ | ⟨gs', ts', vg, vt, hp, rfl, hg, ht⟩⟩
  · unfold parseD at h
    rw [hp] at h
    simp only [Prod.mk.injEq] at h
    obtain ⟨rfl, rfl, rfl⟩ := h
    exact ⟨_, _, rfl, Ow.nil _ _ _ _ _, Ow.nil _ _ _ _ _, hk⟩
  · unfold parseD at h
    rw [hp] at h
    simp only [Prod.mk.injEq] at h
    obtain ⟨rfl, rfl, rfl⟩ := h
    exact ⟨_, _, rfl, hg, ht, hk⟩
/-- What Decode tells. -/
def DecPost (x : Int) (gs : List GS) (ts : List TS) (w : World) (e : Ending) (w' : World) : Prop :=
  ∃ vg vt, e = .returned (.tuple #[.agg #[vg, vt], .int .i64 x]) ∧ Ow w' w.heap.size 45 6 gc vg gs ∧ Ow w' w.heap.size 53 8 tc vt ts ∧ Kp No w w'
/-- Four cells of a block, kept. -/
structure S4K (w1 : World) (b : Nat) (w : World) : Prop where
  kp : Kp No w1 w
  lt : b < w1.heap.size
section
variable {w1 w w' : World} {b i j k l : Nat} {v0 v1 v2 v3 : Value}
theorem S4K.step (h : w.cell? ⟨b, i, none⟩ = some v0 ∧ w.cell? ⟨b, j, none⟩ = some v1 ∧ w.cell? ⟨b, k, none⟩ = some v2 ∧ w.cell? ⟨b, l, none⟩ = some v3 ∧ S4K w1 b w) (q : Kp No w w') : w'.cell? ⟨b, i, none⟩ = some v0 ∧ w'.cell? ⟨b, j, none⟩ = some v1 ∧ w'.cell? ⟨b, k, none⟩ = some v2 ∧ w'.cell? ⟨b, l, none⟩ = some v3 ∧ S4K w1 b w' := by
  have hb : b < w.heap.size := Nat.lt_of_lt_of_le h.2.2.2.2.lt h.2.2.2.2.kp.size
  exact ⟨(q.cell (p := ⟨b, i, none⟩) hb id).trans h.1, (q.cell (p := ⟨b, j, none⟩) hb id).trans h.2.1, (q.cell (p := ⟨b, k, none⟩) hb id).trans h.2.2.1, (q.cell (p := ⟨b, l, none⟩) hb id).trans h.2.2.2.1, h.2.2.2.2.kp.trans q, h.2.2.2.2.lt⟩
theorem S4K.put {p : Nat} {o : Nat} {u : Value} (h : w.cell? ⟨b, i, none⟩ = some v0 ∧ w.cell? ⟨b, j, none⟩ = some v1 ∧ w.cell? ⟨b, k, none⟩ = some v2 ∧ w.cell? ⟨b, l, none⟩ = some v3 ∧ S4K w1 b w) (hp : w1.heap.size ≤ p) :
    (w.setCell ⟨p, o, none⟩ u).cell? ⟨b, i, none⟩ = some v0 ∧ (w.setCell ⟨p, o, none⟩ u).cell? ⟨b, j, none⟩ = some v1 ∧ (w.setCell ⟨p, o, none⟩ u).cell? ⟨b, k, none⟩ = some v2 ∧ (w.setCell ⟨p, o, none⟩ u).cell? ⟨b, l, none⟩ = some v3 ∧ S4K w1 b (w.setCell ⟨p, o, none⟩ u) := by
  have hb : b < w.heap.size := Nat.lt_of_lt_of_le h.2.2.2.2.lt h.2.2.2.2.kp.size
  have q := Kp.set1 p o w u
  have hn : ¬ Only p b := fun e => by have e : b = p := e; have := h.2.2.2.2.lt; omega
  exact ⟨(q.cell (p := ⟨b, i, none⟩) hb hn).trans h.1, (q.cell (p := ⟨b, j, none⟩) hb hn).trans h.2.1, (q.cell (p := ⟨b, k, none⟩) hb hn).trans h.2.2.1, (q.cell (p := ⟨b, l, none⟩) hb hn).trans h.2.2.2.1, h.2.2.2.2.kp.step q fun i hi e => by have e : i = p := e; omega, h.2.2.2.2.lt⟩
theorem S4K.kpa (h : w.cell? ⟨b, i, none⟩ = some v0 ∧ w.cell? ⟨b, j, none⟩ = some v1 ∧ w.cell? ⟨b, k, none⟩ = some v2 ∧ w.cell? ⟨b, l, none⟩ = some v3 ∧ S4K w1 b w) : Kp No w1 w := h.2.2.2.2.kp
end
theorem w64_bd (n : Int) (h : 0 ≤ n ∧ n ≤ 18446744073709551615) : I64 (w64 n) := by unfold w64 I64; split <;> omega
set_option maxRecDepth 100000 in
set_option maxHeartbeats 4000000 in
theorem decode_any {w : World} {S : Nat → Prop} {v : Value} {xs : List Int} (ht : Tab w) (h : Byt w S v xs) (hl : xs.length ≤ 100000) {x : Int} {gs : List GS} {ts : List TS} (hx : dec xs = (x, gs, ts)) :
    Calls Tryz.prog 11 #[v] w (DecPost x gs ts w) := by
  have HBS := hid (show Bs xs from h.bytes)
  have k1 := (Kp.refl No w).alloc (.cells #[.slice none 0 0, .slice none 0 0] 25)
  have b1 := Blk.new w 25 #[.slice none 0 0, .slice none 0 0]
  have z1 := World.size_alloc w (.cells #[.slice none 0 0, .slice none 0 0] 25)
  obtain ⟨w1, hw1⟩ : ∃ w1, w.alloc (.cells #[.slice none 0 0, .slice none 0 0] 25) = w1 := ⟨_, rfl⟩
  rw [hw1] at k1 b1 z1
  have K1 := hid k1
  have B1 := hid b1
  have Z1 := hid z1
  have HU := hid (unpack_any (ht.kp0 k1) (h.kp k1 fun _ _ h => h) hl)
  have HX := hid hx
  obtain ⟨A, c, rfl, _⟩ := h
  obtain ⟨n, hn⟩ : ∃ n, xs.length = n := ⟨_, rfl⟩
  rw [hn] at HU ⊢
  clear k1 b1 z1 ht hl hx hn
  obtain ⟨y, hy⟩ : ∃ y, (unp xs).1 = y := ⟨_, rfl⟩
  unfold UPost at HU
  rw [hy] at HU
  have HY := hid hy
  clear hy
  by_cases h0 : y = 0
  · subst h0
    have HUX := hid (show unp xs = (0, (unp xs).2) by rw [← HY.out])
    have HDX := hid (show dec xs = ofSecs (unp xs).2 by unfold dec; rw [if_pos HY.out])
    obtain ⟨q, hq⟩ : ∃ q, decide ((unp xs).2.map Sn.kind = [1, 2, 3, 4]) = q := ⟨_, rfl⟩
    have HQ := hid hq
    clear hq
    cases q
    · have HDX2 := hid (show dec xs = (21, [], []) by rw [HDX.out]; exact ofSecs_kinds (of_decide_eq_false HQ.out))
      go_enter Tryz.func11, Tryz.ntmps11
      go_upto_region 1 with fail
      clear hw1
      go_upto_region 5 with (first
        | (go_at_call 21
           refine HU.out.mono ?_
           rintro e w2 ⟨u, ss, rfl, hs, hps, k2⟩
           have HS := hid hs
           have HKS := hid (show ss.map Sv.k = (unp xs).2.map Sn.kind by rw [← hs, List.map_map]; rfl)
           have HP := hid hps
           have K12 := hid k2
           have K2 := hid (K1.out.trans k2)
           have B2 := hid (B1.out.kp0 k2)
           obtain ⟨ns, hns⟩ : ∃ ns, ss.length = ns := ⟨_, rfl⟩
           obtain ⟨As, cs, rfl, _, _⟩ := hps.form hns
           have HNS := hid hns
           have HSL := hid (show ss.length ≤ 16 by
             have hC := (unp_zero HBS.out HUX.out).1.len
             rw [← hs, List.length_map] at hC
             exact hC)
           clear hs hps k2 hns)
        | (go_at_call 23
           refine (kinds_any HP.out (by have := HSL.out; omega)).mono ?_
           rintro e w3 ⟨u3, rfl, o3, k3⟩
           obtain ⟨A3, c3, rfl⟩ := o3.formN (m := ns) (by rw [List.length_map, HNS.out])
           have ka := (Kp.refl No w3).alloc (.cells #[.int .i64 1, .int .i64 2, .int .i64 3, .int .i64 4] 3)
           have rw4 : Rw 1 zI 0 (w3.alloc (.cells #[.int .i64 1, .int .i64 2, .int .i64 3, .int .i64 4] 3)) Anyb (.slice (some ⟨w3.heap.size, 0, none⟩) 4 4) [1, 2, 3, 4] := Rw.lit (f := zI) (d := (0 : Int)) w3 3 [1, 2, 3, 4] _ (by simp [maxLen]) (by simp [flat, zI, List.range_succ])
           have HEQ := hid (eqlI_any (Ow.rw (d := (0 : Int)) (o3.kp0 ka)) rw4)
           have K34 := hid (k3.trans ka)
           clear o3 k3 ka rw4)
        | (go_at_call 22
           refine HEQ.out.mono ?_
           rw [show decide (ss.map Sv.k = [1, 2, 3, 4]) = false by rw [HKS.out]; exact HQ.out]
           rintro e w5 ⟨rfl, k5⟩
           have K5 := hid (K34.out.trans k5)
           have K05 := hid (K2.out.trans K5.out)
           have B5 := hid (B2.out.kp0 K5.out)
           have HP5 := hid (HP.out.kp0 K5.out)
           clear k5))
      have c0 := B5.out.cell 0
      have c1 := B5.out.cell 1
      have f0 := B5.out.frozen 0
      have f1 := B5.out.frozen 1
      simp only [List.getElem?_toArray, List.getElem?_cons_zero, List.getElem?_cons_succ] at c0 c1
      go_wp2_with fail
      have bf := (B5.out.put 0 (.slice none 0 0)).put 1 (.slice none 0 0)
      simp only [List.setIfInBounds_toArray, List.set_cons_zero, List.set_cons_succ] at bf
      have kS := (Kp.set1 w.heap.size 0 w5 (.slice none 0 0)).setCell (p := ⟨w.heap.size, 1, none⟩) (.inl rfl) (.slice none 0 0)
      have kf := K05.out.step kS fun i hi e => by have e : i = w.heap.size := e; omega
      have ogf := (Ow.nil ((w5.setCell ⟨w.heap.size, 0, none⟩ (.slice none 0 0)).setCell ⟨w.heap.size, 1, none⟩ (.slice none 0 0)) w.heap.size 45 6 gc)
      have otf := (Ow.nil ((w5.setCell ⟨w.heap.size, 0, none⟩ (.slice none 0 0)).setCell ⟨w.heap.size, 1, none⟩ (.slice none 0 0)) w.heap.size 53 8 tc)
      obtain ⟨rfl, rfl, rfl⟩ := (by simpa using HX.out.symm.trans HDX2.out : x = 21 ∧ gs = [] ∧ ts = [])
      refine bodyPost_ret (v := .tuple #[.agg #[.slice none 0 0, .slice none 0 0], .int .i64 21]) ?_ rfl ⟨_, _, rfl, ogf, otf, kf⟩
      clear c0 c1 f0 f1 kf kS ogf otf
      generalize (w5.setCell _ _).setCell _ _ = WZ at bf ⊢
      have c0 := bf.cell 0
      have c1 := bf.cell 1
      simp only [List.getElem?_toArray, List.getElem?_cons_zero, List.getElem?_cons_succ] at c0 c1
      rw [results_cell2 rfl]
      go_simp

    · have HKD := hid (of_decide_eq_true HQ.out)
      go_enter Tryz.func11, Tryz.ntmps11
      go_upto_region 1 with fail
      clear hw1
      go_wp2_with (first
        | (go_at_call 21
           refine HU.out.mono ?_
           rintro e w2 ⟨u, ss, rfl, hs, hps, k2⟩
           have HS := hid hs
           have HKS := hid (show ss.map Sv.k = (unp xs).2.map Sn.kind by rw [← hs, List.map_map]; rfl)
           have HP := hid hps
           have K12 := hid k2
           have K2 := hid (K1.out.trans k2)
           have B2 := hid (B1.out.kp0 k2)
           obtain ⟨ns, hns⟩ : ∃ ns, ss.length = ns := ⟨_, rfl⟩
           obtain ⟨As, cs, rfl, _, _⟩ := hps.form hns
           have HNS := hid hns
           have HSL := hid (show ss.length ≤ 16 by
             have hC := (unp_zero HBS.out HUX.out).1.len
             rw [← hs, List.length_map] at hC
             exact hC)
           clear hs hps k2 hns)
        | (go_at_call 23
           refine (kinds_any HP.out (by have := HSL.out; omega)).mono ?_
           rintro e w3 ⟨u3, rfl, o3, k3⟩
           obtain ⟨A3, c3, rfl⟩ := o3.formN (m := ns) (by rw [List.length_map, HNS.out])
           have ka := (Kp.refl No w3).alloc (.cells #[.int .i64 1, .int .i64 2, .int .i64 3, .int .i64 4] 3)
           have rw4 : Rw 1 zI 0 (w3.alloc (.cells #[.int .i64 1, .int .i64 2, .int .i64 3, .int .i64 4] 3)) Anyb (.slice (some ⟨w3.heap.size, 0, none⟩) 4 4) [1, 2, 3, 4] := Rw.lit (f := zI) (d := (0 : Int)) w3 3 [1, 2, 3, 4] _ (by simp [maxLen]) (by simp [flat, zI, List.range_succ])
           have HEQ := hid (eqlI_any (Ow.rw (d := (0 : Int)) (o3.kp0 ka)) rw4)
           have K34 := hid (k3.trans ka)
           clear o3 k3 ka rw4)
        | (go_at_call 22
           refine HEQ.out.mono ?_
           rw [show decide (ss.map Sv.k = [1, 2, 3, 4]) = true by rw [HKS.out]; exact HQ.out]
           rintro e w5 ⟨rfl, k5⟩
           have K5 := hid (K34.out.trans k5)
           have K05 := hid (K2.out.trans K5.out)
           have B5 := hid (B2.out.kp0 K5.out)
           have HP5 := hid (HP.out.kp0 K5.out)
           clear k5))
      have hkk : ss.map Sv.k = [1, 2, 3, 4] := by rw [HKS.out]; exact HKD.out
      obtain ⟨s1, s2, s3, s4, rfl⟩ : ∃ s1 s2 s3 s4, ss = [s1, s2, s3, s4] := by
        have hl := congrArg List.length hkk
        rcases ss with _ | ⟨s1, _ | ⟨s2, _ | ⟨s3, _ | ⟨s4, _ | ⟨s5, l⟩⟩⟩⟩⟩ <;> simp at hl
        exact ⟨s1, s2, s3, s4, rfl⟩
      simp only [List.map_cons, List.map_nil, List.cons.injEq, and_true] at hkk
      obtain rfl : ns = 4 := HNS.out.symm
      obtain ⟨b, o, rfl, ok1, _, d1⟩ := HP5.out.at' (k := 0) (by simp)
      obtain ⟨_, _, e0, ok2, _, d2⟩ := HP5.out.at' (k := 1) (by simp)
      cases e0
      obtain ⟨_, _, e0, ok3, _, d3⟩ := HP5.out.at' (k := 2) (by simp)
      cases e0
      obtain ⟨_, _, e0, ok4, _, d4⟩ := HP5.out.at' (k := 3) (by simp)
      cases e0
      simp only [List.getD_cons_zero, List.getD_cons_succ] at ok1 ok2 ok3 ok4 d1 d2 d3 d4
      have HC := hid (unp_zero HBS.out HUX.out).1
      have hlong : ∀ s ∈ [s1, s2, s3, s4], s.bl.length ≤ 65535 := fun s hs => HC.out.long (sn s) (by rw [← HS.out]; exact List.mem_map.2 ⟨s, hs, rfl⟩)
      have l1 := hlong s1 (by simp)
      have l2 := hlong s2 (by simp)
      have l3 := hlong s3 (by simp)
      have l4 := hlong s4 (by simp)
      obtain ⟨rr, ng, hpd⟩ : ∃ r p, parseD s1.bl s2.bl s3.bl s4.bl = (r, p) := ⟨_, _, rfl⟩
      obtain ⟨gp, tp⟩ := ng
      have HDX3 := hid (show dec xs = if rr = false then (5, [], []) else if checkS gp tp = 0 then (0, gp, tp) else (checkS gp tp, [], []) by
        rw [HDX.out, ← HS.out]
        have e : [s1, s2, s3, s4].map sn = [⟨1, s1.bl⟩, ⟨2, s2.bl⟩, ⟨3, s3.bl⟩, ⟨4, s4.bl⟩] := by
          unfold sn
          simp only [List.map_cons, List.map_nil, hkk]
        rw [e]
        exact ofSecs_four _ _ _ _ hpd)
      have HBD := hid (parseD_bd hpd ok1.b.bytes ok2.b.bytes ok3.b.bytes)
      have HTS := hid (fun (W : World) (k : Kp No w5 W) => takescene_is (w := W) hpd (ok1.b.kp k fun _ _ h => h) (ok2.b.kp k fun _ _ h => h) (ok3.b.kp k fun _ _ h => h) (ok4.b.kp k fun _ _ h => h) (by omega) (by omega) (by omega) (by omega))
      have HL := hid (And.intro l1 l3)
      obtain ⟨E1, f1, h1, _⟩ := ok1.form rfl
      obtain ⟨E2, f2, h2, _⟩ := ok2.form rfl
      obtain ⟨E3, f3, h3, _⟩ := ok3.form rfl
      obtain ⟨E4, f4, h4, _⟩ := ok4.form rfl
      rw [h1] at d1 HTS
      rw [h2] at d2 HTS
      rw [h3] at d3 HTS
      rw [h4] at d4 HTS
      have hb5 := World.block_lt_of_cell? w5 _ d1
      simp only [Nat.zero_mul, Nat.one_mul, Nat.add_zero, Nat.add_assoc, Nat.reduceMul, Nat.reduceAdd] at d1 d2 d3 d4
      obtain ⟨m1, hm1⟩ : ∃ m, s1.bl.length = m := ⟨_, rfl⟩
      obtain ⟨m2, hm2⟩ : ∃ m, s2.bl.length = m := ⟨_, rfl⟩
      obtain ⟨m3, hm3⟩ : ∃ m, s3.bl.length = m := ⟨_, rfl⟩
      obtain ⟨m4, hm4⟩ : ∃ m, s4.bl.length = m := ⟨_, rfl⟩
      rw [hm1] at d1 HTS HL
      rw [hm2] at d2 HTS
      rw [hm3] at d3 HTS HL
      rw [hm4] at d4 HTS
      have HZ5 := hid (show w.heap.size + 1 ≤ w5.heap.size by have h1 := K12.out.size; have h2 := K5.out.size; have h3 := Z1.out; omega)
      have SZ := hid (show w5.drew.cell? ⟨b, o + 1, none⟩ = some (.slice E1 m1 f1) ∧ w5.drew.cell? ⟨b, o + 3, none⟩ = some (.slice E2 m2 f2) ∧ w5.drew.cell? ⟨b, o + 5, none⟩ = some (.slice E3 m3 f3) ∧ w5.drew.cell? ⟨b, o + 7, none⟩ = some (.slice E4 m4 f4) ∧ S4K w5 b w5.drew from ⟨d1, d2, d3, d4, (Kp.refl No w5).drew, hb5⟩)
      obtain ⟨lg, hlg⟩ : ∃ n, gp.length = n := ⟨_, rfl⟩
      obtain ⟨lt, hlt⟩ : ∃ n, tp.length = n := ⟨_, rfl⟩
      have HLG := hid hlg
      have HLT := hid hlt
      clear ok1 ok2 ok3 ok4 h1 h2 h3 h4 hm1 hm2 hm3 hm4 d1 d2 d3 d4 hlong l1 l2 l3 l4 hpd hkk HP5 hlg hlt hb5
      go_cut [6, 7] from 24 to 43 (fun p r wx => ∃ g : Nat, p = .pointer (some ⟨g, 0, none⟩) ∧ r = .bool rr ∧ Hid (∃ Ag cg At ct, Blk wx g 25 #[.slice Ag lg cg, .slice At lt ct] ∧ Ow wx (w.heap.size + 1) 45 6 gc (.slice Ag lg cg) gp ∧ Ow wx (w.heap.size + 1) 53 8 tc (.slice At lt ct) tp ∧ Kp No w5 wx))
      case first =>
        go_region_held3 (fun w' => w'.cell? ⟨b, o + 1, none⟩ = some (.slice E1 m1 f1) ∧ w'.cell? ⟨b, o + 3, none⟩ = some (.slice E2 m2 f2) ∧ w'.cell? ⟨b, o + 5, none⟩ = some (.slice E3 m3 f3) ∧ w'.cell? ⟨b, o + 7, none⟩ = some (.slice E4 m4 f4) ∧ S4K w5 b w')
            (first | exact SZ.out | exact S4K.step (by assumption) (by assumption) | exact S4K.step (by assumption) ((Kp.refl No _).alloc _) | exact S4K.step (S4K.step SZ.out k6) ((Kp.refl No _).alloc _) | exact S4K.put (S4K.put (by assumption) (by simp)) (by simp) | assumption)
            (first
              | (go_at_call 24
                 with_reducible refine (HTS.out _ (S4K.kpa (by assumption))).mono ?_
                 rintro e w6 ⟨vg, vt, rfl, og, ot, k6⟩
                 obtain ⟨Ag, cg, rfl⟩ := og.formN HLG.out
                 obtain ⟨At, ct, rfl⟩ := ot.formN HLT.out
                 first
                 | (have B6 : Blk w6 w5.heap.size 25 #[.slice none 0 0, .slice none 0 0] := (Blk.new w5.drew 25 #[.slice none 0 0, .slice none 0 0]).kp0 k6
                    have c60 := B6.cell 0
                    have c61 := B6.cell 1
                    have f60 := B6.frozen 0
                    have f61 := B6.frozen 1
                    simp only [List.getElem?_toArray, List.getElem?_cons_zero, List.getElem?_cons_succ] at c60 c61)
                 | (have B6 : Blk w6 w5.heap.size 25 #[.slice none 0 0, .slice none 0 0] := ((Blk.new w5 25 #[.slice none 0 0, .slice none 0 0]).kp0 (Kp.refl No _).drew).kp0 k6
                    have c60 := B6.cell 0
                    have c61 := B6.cell 1
                    have f60 := B6.frozen 0
                    have f61 := B6.frozen 1
                    simp only [List.getElem?_toArray, List.getElem?_cons_zero, List.getElem?_cons_succ] at c60 c61)
                 | skip))
        · have ka := (Kp.refl No w6).alloc (.cells #[.slice Ag lg cg, .slice At lt ct] 25)
          have hz : w.heap.size + 1 ≤ w5.drew.heap.size := HZ5.out
          have r1 := (og.lower hz).kp0 ka
          have r2 := (ot.lower hz).kp0 ka
          have r3 := ((Kp.refl No w5).drew.trans k6).trans ka
          have r4 := Blk.new w6 25 #[.slice Ag lg cg, .slice At lt ct]
          have HR := hid (And.intro (And.intro r1 r2) (And.intro r3 r4))
          clear r1 r2 r3 r4 og ot k6 ka
          go_wp2_with fail
          go_meet
          exact ⟨_, rfl, rfl, hid ⟨Ag, cg, At, ct, HR.out.2.2, HR.out.1.1, HR.out.1.2, HR.out.2.1⟩⟩
        · have kS := (Kp.set1 w5.heap.size 0 w6 (.slice Ag lg cg)).setCell (p := ⟨w5.heap.size, 1, none⟩) (.inl rfl) (.slice At lt ct)
          have hs := World.size_alloc w5 (.cells #[.slice none 0 0, .slice none 0 0] 25)
          have hd : (w5.alloc (.cells #[.slice none 0 0, .slice none 0 0] 25)).drew.heap.size = w5.heap.size + 1 := hs
          have hz := HZ5.out
          have r1 := (og.kpx kS fun i hi e => by have e : i = w5.heap.size := e; have := (og.blk hi).1; omega).lower (base' := w.heap.size + 1) (by omega)
          have r2 := (ot.kpx kS fun i hi e => by have e : i = w5.heap.size := e; have := (ot.blk hi).1; omega).lower (base' := w.heap.size + 1) (by omega)
          have r3 := (((Kp.refl No w5).alloc (.cells #[.slice none 0 0, .slice none 0 0] 25)).drew.trans k6).step kS fun i hi e => by have e : i = w5.heap.size := e; omega
          have r4 := (B6.put 0 (.slice Ag lg cg)).put 1 (.slice At lt ct)
          simp only [List.setIfInBounds_toArray, List.set_cons_zero, List.set_cons_succ] at r4
          have HR := hid (And.intro (And.intro r1 r2) (And.intro r3 r4))
          clear r1 r2 r3 r4 og ot k6 kS B6 c60 c61 f60 f61 hs hd
          go_wp2_with fail
          go_meet
          exact ⟨_, rfl, rfl, hid ⟨Ag, cg, At, ct, HR.out.2.2, HR.out.1.1, HR.out.1.2, HR.out.2.1⟩⟩
      case rest =>
        obtain ⟨g, rfl, rfl, HC⟩ := hcut
        obtain ⟨Ag, cg, At, ct, hbg, hog, hot, hkc⟩ := HC.out
        have BG := hid hbg
        have OG := hid hog
        have OT := hid hot
        have KC := hid hkc
        have BC := hid (B5.out.kp0 hkc)
        have K0C := hid (K05.out.trans hkc)
        clear hbg hog hot hkc HC SZ B5 K05 HTS HL
        cases rr
        · have HD5 := hid (show dec xs = (5, [], []) by rw [HDX3.out]; rfl)
          have c0 := BC.out.cell 0
          have c1 := BC.out.cell 1
          have f0 := BC.out.frozen 0
          have f1 := BC.out.frozen 1
          simp only [List.getElem?_toArray, List.getElem?_cons_zero, List.getElem?_cons_succ] at c0 c1
          go_wp2_with fail
          have bf := (BC.out.put 0 (.slice none 0 0)).put 1 (.slice none 0 0)
          simp only [List.setIfInBounds_toArray, List.set_cons_zero, List.set_cons_succ] at bf
          have kS := (Kp.set1 w.heap.size 0 wc (.slice none 0 0)).setCell (p := ⟨w.heap.size, 1, none⟩) (.inl rfl) (.slice none 0 0)
          have kf := K0C.out.step kS fun i hi e => by have e : i = w.heap.size := e; omega
          have ogf := (Ow.nil ((wc.setCell ⟨w.heap.size, 0, none⟩ (.slice none 0 0)).setCell ⟨w.heap.size, 1, none⟩ (.slice none 0 0)) w.heap.size 45 6 gc)
          have otf := (Ow.nil ((wc.setCell ⟨w.heap.size, 0, none⟩ (.slice none 0 0)).setCell ⟨w.heap.size, 1, none⟩ (.slice none 0 0)) w.heap.size 53 8 tc)
          obtain ⟨rfl, rfl, rfl⟩ := (by simpa using HX.out.symm.trans HD5.out : x = 5 ∧ gs = [] ∧ ts = [])
          refine bodyPost_ret (v := .tuple #[.agg #[.slice none 0 0, .slice none 0 0], .int .i64 5]) ?_ rfl ⟨_, _, rfl, ogf, otf, kf⟩
          clear c0 c1 f0 f1 kf kS ogf otf
          generalize (wc.setCell _ _).setCell _ _ = WZ at bf ⊢
          have c0 := bf.cell 0
          have c1 := bf.cell 1
          simp only [List.getElem?_toArray, List.getElem?_cons_zero, List.getElem?_cons_succ] at c0 c1
          rw [results_cell2 rfl]
          go_simp
        · have HD0 := hid (show dec xs = if checkS gp tp = 0 then (0, gp, tp) else (checkS gp tp, [], []) by rw [HDX3.out]; rfl)
          obtain ⟨y, hy⟩ : ∃ y, checkS gp tp = y := ⟨_, rfl⟩
          have HYC := hid hy
          have HCK := hid (zcheck_is (x := y) (show Sce wc Anyb (.agg #[.slice Ag lg cg, .slice At lt ct]) gp tp from ⟨_, _, rfl, (OG.out.rwp).any, (OT.out.rwp).any⟩) (fun g hg => by have := (HBD.out.1 g hg).id; have := (HBD.out.1 g hg).par; unfold I64; omega) (fun t ht => by have := HBD.out.2.1 t ht; unfold I64; omega) hy)
          have cg0 := BG.out.cell 0
          have cg1 := BG.out.cell 1
          simp only [List.getElem?_toArray, List.getElem?_cons_zero, List.getElem?_cons_succ] at cg0 cg1
          clear hy
          by_cases hy0 : y = 0
          · subst hy0
            have HD1 := hid (show dec xs = (0, gp, tp) by rw [HD0.out, if_pos HYC.out])
            go_upto_region 10 with (first
              | (go_at_call 15
                 refine HCK.out.mono ?_
                 rintro e w8 ⟨rfl, k8⟩
                 have B8 := hid (BC.out.kp0 k8)
                 have K8 := hid (K0C.out.trans k8)
                 have OG8 := hid (OG.out.kp0 k8)
                 have OT8 := hid (OT.out.kp0 k8)
                 have bg8 := BG.out.kp0 k8
                 have cg80 := bg8.cell 0
                 have cg81 := bg8.cell 1
                 simp only [List.getElem?_toArray, List.getElem?_cons_zero, List.getElem?_cons_succ] at cg80 cg81
                 clear k8 bg8))
            have c0 := B8.out.cell 0
            have c1 := B8.out.cell 1
            have f0 := B8.out.frozen 0
            have f1 := B8.out.frozen 1
            simp only [List.getElem?_toArray, List.getElem?_cons_zero, List.getElem?_cons_succ] at c0 c1
            go_wp2_with fail
            have bf := (B8.out.put 0 (.slice Ag lg cg)).put 1 (.slice At lt ct)
            simp only [List.setIfInBounds_toArray, List.set_cons_zero, List.set_cons_succ] at bf
            have kS := (Kp.set1 w.heap.size 0 w8 (.slice Ag lg cg)).setCell (p := ⟨w.heap.size, 1, none⟩) (.inl rfl) (.slice At lt ct)
            have kf := K8.out.step kS fun i hi e => by have e : i = w.heap.size := e; omega
            have ogf := (OG8.out.kpx kS fun i hi e => by have e : i = w.heap.size := e; have := (OG8.out.blk hi).1; omega).lower (base' := w.heap.size) (by omega)
            have otf := (OT8.out.kpx kS fun i hi e => by have e : i = w.heap.size := e; have := (OT8.out.blk hi).1; omega).lower (base' := w.heap.size) (by omega)
            obtain ⟨rfl, rfl, rfl⟩ := (by simpa using HX.out.symm.trans HD1.out : x = 0 ∧ gs = gp ∧ ts = tp)
            refine bodyPost_ret (v := .tuple #[.agg #[.slice Ag lg cg, .slice At lt ct], .int .i64 0]) ?_ rfl ⟨_, _, rfl, ogf, otf, kf⟩
            clear c0 c1 f0 f1 kf kS ogf otf
            generalize (w8.setCell _ _).setCell _ _ = WZ at bf ⊢
            have c0 := bf.cell 0
            have c1 := bf.cell 1
            simp only [List.getElem?_toArray, List.getElem?_cons_zero, List.getElem?_cons_succ] at c0 c1
            rw [results_cell2 rfl]
            go_simp
          · have hy1 : (y != 0) = true := by rw [bne_iff_ne]; exact hy0
            have HD1 := hid (show dec xs = (y, [], []) by rw [HD0.out, if_neg (by rw [HYC.out]; exact hy0), HYC.out])
            clear hy0
            go_upto_region 10 with (first
              | (go_at_call 15
                 refine HCK.out.mono ?_
                 rintro e w8 ⟨rfl, k8⟩
                 have B8 := hid (BC.out.kp0 k8)
                 have K8 := hid (K0C.out.trans k8)
                 clear k8))
            have c0 := B8.out.cell 0
            have c1 := B8.out.cell 1
            have f0 := B8.out.frozen 0
            have f1 := B8.out.frozen 1
            simp only [List.getElem?_toArray, List.getElem?_cons_zero, List.getElem?_cons_succ] at c0 c1
            go_wp2_with fail
            have bf := (B8.out.put 0 (.slice none 0 0)).put 1 (.slice none 0 0)
            simp only [List.setIfInBounds_toArray, List.set_cons_zero, List.set_cons_succ] at bf
            have kS := (Kp.set1 w.heap.size 0 w8 (.slice none 0 0)).setCell (p := ⟨w.heap.size, 1, none⟩) (.inl rfl) (.slice none 0 0)
            have kf := K8.out.step kS fun i hi e => by have e : i = w.heap.size := e; omega
            have ogf := (Ow.nil ((w8.setCell ⟨w.heap.size, 0, none⟩ (.slice none 0 0)).setCell ⟨w.heap.size, 1, none⟩ (.slice none 0 0)) w.heap.size 45 6 gc)
            have otf := (Ow.nil ((w8.setCell ⟨w.heap.size, 0, none⟩ (.slice none 0 0)).setCell ⟨w.heap.size, 1, none⟩ (.slice none 0 0)) w.heap.size 53 8 tc)
            obtain ⟨rfl, rfl, rfl⟩ := (by simpa using HX.out.symm.trans HD1.out : x = y ∧ gs = [] ∧ ts = [])
            refine bodyPost_ret (v := .tuple #[.agg #[.slice none 0 0, .slice none 0 0], .int .i64 x]) ?_ rfl ⟨_, _, rfl, ogf, otf, kf⟩
            clear c0 c1 f0 f1 kf kS ogf otf
            generalize (w8.setCell _ _).setCell _ _ = WZ at bf ⊢
            have c0 := bf.cell 0
            have c1 := bf.cell 1
            simp only [List.getElem?_toArray, List.getElem?_cons_zero, List.getElem?_cons_succ] at c0 c1
            rw [results_cell2 rfl]
            go_simp
  · have hne : (y != 0) = true := by rw [bne_iff_ne]; exact h0
    have HDX := hid (show dec xs = (y, [], []) by unfold dec; rw [if_neg (by rw [HY.out]; exact h0), HY.out])
    clear h0
    go_enter Tryz.func11, Tryz.ntmps11
    go_upto_region 1 with fail
    clear hw1
    go_upto_region 3 with (first
      | (go_at_call 21
         refine HU.out.mono ?_
         rintro e w2 ⟨u, ss, rfl, _, _, k2⟩
         have K2 := hid (K1.out.trans k2)
         have B2 := hid (B1.out.kp0 k2)
         clear k2))
    have c0 := B2.out.cell 0
    have c1 := B2.out.cell 1
    have f0 := B2.out.frozen 0
    have f1 := B2.out.frozen 1
    simp only [List.getElem?_toArray, List.getElem?_cons_zero, List.getElem?_cons_succ] at c0 c1
    go_wp2_with fail
    have bf := (B2.out.put 0 (.slice none 0 0)).put 1 (.slice none 0 0)
    simp only [List.setIfInBounds_toArray, List.set_cons_zero, List.set_cons_succ] at bf
    have kS := (Kp.set1 w.heap.size 0 w2 (.slice none 0 0)).setCell (p := ⟨w.heap.size, 1, none⟩) (.inl rfl) (.slice none 0 0)
    have kf := K2.out.step kS fun i hi e => by have e : i = w.heap.size := e; omega
    have ogf := (Ow.nil ((w2.setCell ⟨w.heap.size, 0, none⟩ (.slice none 0 0)).setCell ⟨w.heap.size, 1, none⟩ (.slice none 0 0)) w.heap.size 45 6 gc)
    have otf := (Ow.nil ((w2.setCell ⟨w.heap.size, 0, none⟩ (.slice none 0 0)).setCell ⟨w.heap.size, 1, none⟩ (.slice none 0 0)) w.heap.size 53 8 tc)
    obtain ⟨rfl, rfl, rfl⟩ := (by simpa using HX.out.symm.trans HDX.out : x = y ∧ gs = [] ∧ ts = [])
    refine bodyPost_ret (v := .tuple #[.agg #[.slice none 0 0, .slice none 0 0], .int .i64 x]) ?_ rfl ⟨_, _, rfl, ogf, otf, kf⟩
    clear c0 c1 f0 f1 kf kS ogf otf
    generalize (w2.setCell _ _).setCell _ _ = WZ at bf ⊢
    have c0 := bf.cell 0
    have c1 := bf.cell 1
    simp only [List.getElem?_toArray, List.getElem?_cons_zero, List.getElem?_cons_succ] at c0 c1
    rw [results_cell2 rfl]
    go_simp
end Go.Proofs.YtggmdgdgljlddaaGreatDoor

/-
  The chapter's example; Encode and Decode in the forms that the laws ask.
-/
namespace Go.Proofs.YtggmdgdgljlddaaGreatDoor
open Go.RowKit Go.Shelf

def gE : GS := ⟨5, 0, 2, 0, 0, 0⟩
theorem ordE : orderG [gE] = [gE] := by
  have hs : srtG ([] : List GS) = [] := by simp [srtG]
  have hk : ∀ x, kidsA [] x = [] := fun x => by unfold kidsA; rw [hs]; rfl
  unfold orderG
  show (run (kidsA []) (([] : List GS).length + 1) [(gE, 0)]).map (·.1) = _
  simp only [run, hk, lay, List.map_cons, List.map_nil, List.append_nil, List.length_nil, Nat.zero_add]
theorem tallE : tallG [gE] = 0 := by
  have hs : srtG ([] : List GS) = [] := by simp [srtG]
  have hk : ∀ x, kidsA [] x = [] := fun x => by unfold kidsA; rw [hs]; rfl
  unfold tallG
  show (run (kidsA []) (([] : List GS).length + 1) [(gE, 0)]).foldl (fun m p => max m p.2) 0 = _
  simp [run, hk, lay]
theorem checkE : checkS [gE] [] = 0 := by
  rw [checkS_cons]
  have h1 : ([gE] : List GS).any wrongG = false := by decide
  have h2 : (idsOf [gE] []).Nodup := by decide
  have h3 : lostB gE [] [] = false := by decide
  have h4 : ordB [gE] [] = true := by
    unfold ordB
    rw [ordE, srtT_nil]
    rfl
  rw [if_neg (by simp), h1, h3, h4, tallE, if_neg (by simp), if_neg (by simpa using h2), if_neg (by simp), if_neg (by simp), if_neg (by simp)]
theorem decE : dec (image (secs [gE] [])) = (0, [gE], []) := by
  obtain ⟨h1, h2⟩ := check_fits checkE (fun t ht => by cases ht)
  exact dec_image h1 h2 (secs_can (by simp) (by simp)) checkE
section
variable {w w' : World} {P : Nat → Prop} {v : Value} {gs : List GS} {ts : List TS}
/-- Encode of a scene that can be, and has room. -/
theorem encode_good (ht : Tab w) (h : Sce w P v gs ts) (hp : ∀ g ∈ gs, I64 g.id ∧ I64 g.par) (hpt : ∀ t ∈ ts, I64 t.gr) (hco : ∀ t ∈ ts, 0 ≤ t.co ∧ t.co ≤ 18446744073709551615) (h0 : checkS gs ts = 0) (hC : Can (secs gs ts)) :
    Calls Tryz.prog 7 #[v] w fun e w' => ∃ u, e = .returned (.tuple #[u, .int .i64 0]) ∧ Own w' w.heap.size 5 u (image (secs gs ts)) ∧ Kp No w w' := by
  refine (encode_any ht h hp hpt hco).mono ?_
  rintro e w' ⟨hk, ⟨_, _, u, rfl, ho⟩ | ⟨x, hx, hx0, rfl⟩⟩
  · exact ⟨u, rfl, ho, hk⟩
  · unfold encE at hx
    rw [if_pos h0, (can_iff _).2 hC] at hx
    exact absurd hx.symm hx0
/-- Encode of one that can't be. -/
theorem encode_bad {x : Int} (ht : Tab w) (h : Sce w P v gs ts) (hp : ∀ g ∈ gs, I64 g.id ∧ I64 g.par) (hpt : ∀ t ∈ ts, I64 t.gr) (hco : ∀ t ∈ ts, 0 ≤ t.co ∧ t.co ≤ 18446744073709551615) (hx : encE gs ts = x) (hx0 : x ≠ 0) :
    Calls Tryz.prog 7 #[v] w fun e w' => e = .returned (.tuple #[.slice none 0 0, .int .i64 x]) ∧ Kp No w w' := by
  refine (encode_any ht h hp hpt hco).mono ?_
  rintro e w' ⟨hk, ⟨h1, h2, _⟩ | ⟨y, hy, _, rfl⟩⟩
  · unfold encE at hx
    rw [if_pos h1, (can_iff _).2 h2] at hx
    exact absurd hx.symm hx0
  · rw [← hx, ← hy]
    exact ⟨rfl, hk⟩
theorem Own.sce {vg vt : Value} (h1 : Ow w w'.heap.size 45 6 gc vg gs) (h2 : Ow w w'.heap.size 53 8 tc vt ts) : Sce w Anyb (.agg #[vg, vt]) gs ts := ⟨_, _, rfl, h1.rwp.any, h2.rwp.any⟩
end
set_option maxRecDepth 100000 in
set_option maxHeartbeats 2000000 in
theorem iawake_any {w : World} (ht : Tab w) : Calls Tryz.prog 5 #[] w fun e w' => e = .returned (.bool true) ∧ Kp No w w' := by
  have k1 := (Kp.refl No w).alloc (.cells #[.int .i64 5, .int .i64 0, .int .i64 2, .int .i64 0, .int .i64 0, .int .i64 0] 45)
  have r1 : Rw 6 gc gs0 (w.alloc (.cells #[.int .i64 5, .int .i64 0, .int .i64 2, .int .i64 0, .int .i64 0, .int .i64 0] 45)) Anyb (.slice (some ⟨w.heap.size, 0, none⟩) 1 1) [gE] := Rw.lit (f := gc) (d := gs0) w 45 [gE] _ (by simp [maxLen]) (by simp [flat, gc, ge, gE, List.range_succ])
  have hS : Sce (w.alloc (.cells #[.int .i64 5, .int .i64 0, .int .i64 2, .int .i64 0, .int .i64 0, .int .i64 0] 45)) Anyb (.agg #[.slice (some ⟨w.heap.size, 0, none⟩) 1 1, .slice none 0 0]) [gE] [] := ⟨_, _, rfl, r1, Rw.nil _ _ _ _ _⟩
  have hI : ∀ g ∈ [gE], I64 g.id ∧ I64 g.par := by
    intro g hg
    rw [List.mem_singleton.1 hg]
    exact ⟨I64.small (by decide) (by decide), I64.small (by decide) (by decide)⟩
  have HE := hid (encode_good (ht.kp0 k1) hS hI (fun t ht => by cases ht) (fun t ht => by cases ht) checkE (secs_can (by simp) (by simp)))
  have HTB := hid ht
  have K1 := hid k1
  have HLE := hid (show (image (secs [gE] [])).length = 62 by rw [secs_image_len]; rfl)
  clear ht k1 r1 hS hI
  go_enter Tryz.func5, Tryz.ntmps5
  go_wp2_with (first
    | (go_at_call 7
       refine HE.out.mono ?_
       rintro e w2 ⟨u, rfl, o2, k2⟩
       obtain ⟨A2, c2, rfl⟩ := o2.formN HLE.out
       have K2 := hid (K1.out.trans k2)
       have HD := hid (decode_any (HTB.out.kp0 K2.out) (o2.byt (P := Anyb) fun _ _ => trivial) (by rw [HLE.out]; omega) decE)
       clear o2 k2)
    | (go_at_call 11
       refine HD.out.mono ?_
       rintro e w3 ⟨vg, vt, rfl, og, ot, k3⟩
       obtain ⟨bo, co, rfl, hb1, hb2, hc1, hc2⟩ := og.form2 (by simp)
       obtain ⟨At, ct, rfl⟩ := ot.formN (m := 0) rfl
       have k34 := (Kp.refl No w3).alloc (.cells #[.slice (some ⟨bo, 0, none⟩) 1 co, .slice At 0 ct] 25)
       have K3 := hid (K2.out.trans k3)
       have K4 := hid ((K2.out.trans k3).trans k34)
       have HSZ := hid (size_any (Own.sce (og.kp0 k34) (ot.kp0 k34)) (by simp) (by simp))
       have c62 : (w3.alloc (.cells #[.slice (some ⟨bo, 0, none⟩) 1 co, .slice At 0 ct] 25)).cell? ⟨bo, 2, none⟩ = some (.int .i64 2) := (og.kp0 k34).cellAt (d := gs0) (j := 0) (i := 2) (by simp) (by omega)
       clear og ot k3 k34)
    | (go_at_call 10
       refine HSZ.out.mono ?_
       rintro e w5 ⟨rfl, k5⟩
       have K5 := hid (K4.out.trans k5)
       clear k5))
  go_ret
  exact ⟨rfl, K5.out⟩
end Go.Proofs.YtggmdgdgljlddaaGreatDoor
