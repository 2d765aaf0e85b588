/-
  What is done with a store: the laws' few, same, awake, walked; what comes in; append; a crash.
-/
import Derived.Test.YtgfkbkonelphaaaGreatDoorSlQ
import Derived.Test.YtgfkbkonelphaaaGreatDoorSlDM
import Derived.Test.YtgfkbkonelphaaaGreatDoorDR
import Derived.Test.YtgfkbkonelphaaaGreatDoorDN
import Derived.Deep.Slices
import Derived.Deep.Grids
import Derived.Lib.SmallJoins
import Derived.SizedLaws

/-
  What is done with a store: contract of the laws' few. (After the disk's laws.)
-/
namespace Go.Proofs.YtgfkbkonelphaaaGreatDoor
open Go.RowKit

/-- What is done: three numbers, bytes, and a list of bools. -/
structure Dop where
  d : Int
  i : Int
  n : Int
  bv : Value
  bl : List Int
  kv : Value
  kl : List Bool
def dop0 : Dop := ⟨0, 0, 0, .slice none 0 0, [], .slice none 0 0, []⟩
def dc (o : Dop) : Nat → Value
  | 0 => .int .i64 o.d
  | 1 => .int .i64 o.i
  | 2 => .int .i64 o.n
  | 3 => o.bv
  | _ => o.kv
structure OpOk (w : World) (P : Nat → Prop) (o : Dop) : Prop where
  d : I64 o.d
  i : I64 o.i
  n : I64 o.n
  b : Byt w P o.bv o.bl
  k : Sl Value.bool false w P o.kv o.kl
/-- A slice of such that came in. -/
structure Ops (w : World) (P : Nat → Prop) (v : Value) (os : List Dop) : Prop where
  rw : Rw 5 dc dop0 w P v os
  ok : ∀ o ∈ os, OpOk w P o

section
variable {w w' : World} {P S : Nat → Prop} {o : Dop} {v : Value} {os : List Dop}
theorem OpOk.kp (h : OpOk w P o) (k : Kp S w w') (hs : ∀ i, P i → ¬ S i) : OpOk w' P o := ⟨h.d, h.i, h.n, h.b.kp k hs, h.k.kp k fun i _ hp => hs i hp⟩
theorem Ops.kp (h : Ops w P v os) (k : Kp S w w') (hs : ∀ i, P i → ¬ S i) : Ops w' P v os := ⟨h.rw.kp k fun i _ hp => hs i hp, fun o ho => (h.ok o ho).kp k hs⟩
theorem Rw.below' {α : Type} {n : Nat} {f : α → Nat → Value} {d : α} {xs : List α} (h : Rw n f d w P v xs) : Rw n f d w (fun i => i < w.heap.size) v xs := by
  obtain ⟨A, c, rfl, hc, hm, hr⟩ := h
  refine ⟨A, c, rfl, hc, hm, fun h0 => ?_⟩
  obtain ⟨b, o, e, h1, h2, h3⟩ := hr h0
  exact ⟨b, o, e, h1, h1, h3⟩
theorem Ops.below (h : Ops w P v os) : Ops w (fun i => i < w.heap.size) v os := ⟨h.rw.below', fun o ho => ⟨(h.ok o ho).d, (h.ok o ho).i, (h.ok o ho).n, (h.ok o ho).b.below, (h.ok o ho).k.below⟩⟩

/-- One of them. -/
theorem Ops.at' {A : Option Addr} {n c k : Nat} (h : Ops w P (.slice A n c) os) (hk : k < os.length) : ∃ b o, A = some ⟨b, o, none⟩ ∧ OpOk w P (os.getD k dop0) ∧ (∀ j, j < 5 → w.cell? ⟨b, o + k * 5 + j, none⟩ = some (dc (os.getD k dop0) j)) := by
  obtain ⟨A', c', he, h1, h2, h3⟩ := h.rw
  injection he with e1 e2 e3
  subst e1
  obtain ⟨b, o, e, g1, g2, g3⟩ := h3 (by omega)
  exact ⟨b, o, e, h.ok _ (by simp [List.getD, hk]), fun j hj => by rw [Nat.add_assoc]; exact g3 k j hk hj⟩

/-- What few tells. -/
def FewOk (os : List Dop) : Prop := os.length ≤ 20 ∧ ∀ o ∈ os, o.bl.length ≤ 400 ∧ o.kl.length ≤ 50
def FewPost (os : List Dop) (w : World) (e : Ending) (w' : World) : Prop := ∃ q : Bool, e = .returned (.bool q) ∧ w' = w ∧ (q = true → FewOk os)
set_option maxRecDepth 100000 in
theorem few_any (h : Ops w P v os) : Calls Tryz.prog 5 #[v] w (FewPost os w) := by
  obtain ⟨A, c, rfl, hc, hm, _⟩ := h.rw
  unfold maxLen at hm
  obtain ⟨n, hn⟩ : ∃ n, os.length = n := ⟨_, rfl⟩
  have HN := hid hn
  have HO := hid h
  rw [hn] at hc ⊢
  rw [hn] at HO
  clear hn h
  go_enter Tryz.func5, Tryz.ntmps5
  go_wp2
  go_loop [3] (fun i => ∃ k : Nat, k ≤ n ∧ i = .int .i64 (k : Int) ∧ Hid (∀ j, j < k → (os.getD j dop0).bl.length ≤ 400 ∧ (os.getD j dop0).kl.length ≤ 50)) (fun i => n - (intOf i).toNat)
  case atStart => exact ⟨0, Nat.zero_le _, rfl, hid fun j hj => absurd hj (by omega)⟩
  case round =>
    obtain ⟨k, hk, rfl, HQ⟩ := hrel
    by_cases hkn : k < n
    · obtain ⟨b, o, rfl, ok, hcell⟩ := HO.out.at' (k := k) (by rw [HN.out]; exact hkn)
      obtain ⟨x, hx⟩ : ∃ x, os.getD k dop0 = x := ⟨_, rfl⟩
      have HX := hid hx
      rw [hx] at ok hcell
      clear hx
      have c3 := hcell 3 (by omega)
      have c4 := hcell 4 (by omega)
      obtain ⟨B, bc, hb, _, hbm, _⟩ := ok.b
      obtain ⟨K, kc, hkv, _, hkm, _⟩ := ok.k
      simp only [dc] at c3 c4
      rw [hb] at c3
      rw [hkv] at c4
      unfold maxLen at hbm hkm
      obtain ⟨nb, hnb⟩ : ∃ nb, x.bl.length = nb := ⟨_, rfl⟩
      obtain ⟨nk, hnk⟩ : ∃ nk, x.kl.length = nk := ⟨_, rfl⟩
      have HB := hid hnb
      have HK := hid hnk
      rw [hnb] at c3
      rw [hnk] at c4
      clear hcell ok hb hkv HO HN hnb hnk
      have hsum := wrapI (x := (k : Int) + 1) (by unfold I64; omega)
      by_cases hb4 : 400 < nb
      · have g1 : (400 : Int) < (nb : Int) := by omega
        go_wp2
        go_ret
        exact ⟨_, rfl, rfl, fun h => by cases h⟩
      · have g1 : ¬ (400 : Int) < (nb : Int) := by omega
        by_cases hk5 : 50 < nk
        · have g2 : (50 : Int) < (nk : Int) := by omega
          go_wp2
          go_ret
          exact ⟨_, rfl, rfl, fun h => by cases h⟩
        · have g2 : ¬ (50 : Int) < (nk : Int) := by omega
          go_wp2
          go_round
          case rel =>
            refine ⟨k + 1, by omega, by go_num, hid fun j hj => ?_⟩
            by_cases hjk : j = k
            · subst hjk
              rw [HX.out, HB.out, HK.out]
              exact ⟨by omega, by omega⟩
            · exact HQ.out j (by omega)
          case measure => simp [intOf]; omega
    · have hkn2 : k = n := by omega
      subst hkn2
      go_wp2
      go_ret
      refine ⟨_, rfl, rfl, fun h => ⟨?_, fun o ho => ?_⟩⟩
      · have h2 : (k : Int) ≤ 20 := by simpa using h
        rw [HN.out]
        omega
      · obtain ⟨j, hj, rfl⟩ := List.getElem_of_mem ho
        have := HQ.out j (by rw [← HN.out]; exact hj)
        rwa [show os.getD j dop0 = os[j] by simp [List.getD, hj]] at this
end
end Go.Proofs.YtgfkbkonelphaaaGreatDoor

/-
  A store on a disk that is on, with nothing waiting: what is found is what it has; its steps; contracts of the laws' same.
-/
namespace Go.Proofs.YtgfkbkonelphaaaGreatDoor
open Go.RowKit

theorem dsN_look (n j : Nat) (hj : j < n) : look (dsN n) j = zs := by
  unfold look dsN
  simp only [Option.getD_none]
  rw [List.getD_eq_getElem?_getD, List.getElem?_replicate, if_pos hj]
  rfl
/-- A store and its disk, which is on; nothing waits; what it has is what is found, and r' was there before. -/
structure Wd (w : World) (q g b m n h : Nat) (s : Ds) (r : Nat × Bool × List Int) (r' : Bool × List Int) : Prop where
  dk : Dk w g b m s
  st : Sto w q g b m h r
  on : s.armed = false
  cl : ∀ j : Nat, s.c (j : Int) = none
  kl : s.k.length = n
  hn : (n - 2) / 2 = h
  n4 : 4 ≤ n
  gd : Good (look s) h r.1 r.2.1 r.2.2 r'.1 r'.2

section
variable {w w' : World} {P S : Nat → Prop} {q g b m n h a : Nat} {s : Ds} {r : Nat × Bool × List Int} {r' : Bool × List Int} {has qb : Bool} {img I xs : List Int} {v iv : Value}
theorem Wd.kp0 (d : Wd w q g b m n h s r r') (k : Kp No w w') : Wd w' q g b m n h s r r' := ⟨d.dk.kp0 k, Str.kp0 d.st k, d.on, d.cl, d.kl, d.hn, d.n4, d.gd⟩
theorem Wd.off (d : Wd w q g b m n h s r r') : off s = false := off_on d.on
theorem Wd.found (d : Wd w q g b m n h s r r') : opn (look s) h = r := d.gd.found
theorem Wd.two (d : Wd w q g b m n h s r r') : 2 + 2 * h ≤ s.k.length := by have := d.kl; have := d.hn; have := d.n4; omega
theorem Wd.sec (d : Wd w q g b m n h s r r') : ∀ l ∈ s.k, l.length = 64 := fun l hl => (d.dk.ok.sec l hl).len
/-- A store on a new disk. -/
theorem wd_new (h0 : Dk w g b m (dsN n)) (hs : Sto w q g b m ((n - 2) / 2) (opn (look (dsN n)) ((n - 2) / 2))) (hn : 4 ≤ n) (hn2 : n ≤ 512) : Wd w q g b m n ((n - 2) / 2) (dsN n) (0, false, []) (false, []) := by
  have hg : Good (look (dsN n)) ((n - 2) / 2) 0 false [] false [] := good_new (by omega) (by omega)
  rw [hg.found] at hs
  exact ⟨h0, hs, rfl, fun j => rfl, by simp [dsN], rfl, hn, hg⟩
/-- What a commit leaves. -/
theorem Wd.com (d : Wd w q g b m n h s r r') (hI : I.length ≤ 64 * h) (ha : r.1 + 1 ≤ 1099511627776) {e : Ending} (hc : CoPost q g b m h w (comR s h r I) e w') :
    e = .returned (.int .i64 0) ∧ Kp (SB q g b m) w w' ∧ ∃ s', Wd w' q g b m n h s' (r.1 + 1, true, I) r.2 := by
  obtain ⟨h1, h2, h3, h4⟩ := hc
  have hC := comD_is (h := h) (i := I) d.cl d.two d.sec d.gd hI ha
  have hp := hC.on d.on
  have e1 : comR s h r I = (0, (comD s h (r.1 + 1) I).1, (r.1 + 1, true, I)) := by
    unfold comR
    rw [if_neg (by omega), if_neg (by omega), hp]
    rfl
  rw [e1] at h1 h3 h4
  obtain ⟨hcl, hg⟩ := hC.yes hp
  exact ⟨h1, h2, _, h3, h4, hC.arm.trans d.on, hcl, hC.len.trans d.kl, d.hn, d.n4, hg⟩
theorem Wd.long (d : Wd w q g b m n h s r r') (hI : 64 * h < I.length) {e : Ending} (hc : CoPost q g b m h w (comR s h r I) e w') :
    e = .returned (.int .i64 22) ∧ Kp (SB q g b m) w w' ∧ Wd w' q g b m n h s r r' := by
  obtain ⟨h1, h2, h3, h4⟩ := hc
  have e1 : comR s h r I = (22, s, r) := by unfold comR; rw [if_pos hI]
  rw [e1] at h1 h3 h4
  exact ⟨h1, h2, h3, h4, d.on, d.cl, d.kl, d.hn, d.n4, d.gd⟩
/-- What a deletion leaves. -/
theorem Wd.del (d : Wd w q g b m n h s r r') (hh : r.2.1 = true) (ha : r.1 + 1 ≤ 1099511627776) {e : Ending} (hc : CoPost q g b m h w (delR s r) e w') :
    e = .returned (.int .i64 0) ∧ Kp (SB q g b m) w w' ∧ ∃ s', Wd w' q g b m n h s' (r.1 + 1, false, []) r.2 := by
  obtain ⟨h1, h2, h3, h4⟩ := hc
  have hC := delD_is (h := h) d.cl (by have := d.two; omega) d.gd ha
  have hp := hC.on d.on
  have e1 : delR s r = (0, (sealD s (r.1 + 1) false []).1, (r.1 + 1, false, [])) := by
    unfold delR
    rw [if_neg (by rw [hh]; decide), if_neg (by omega), hp]
    rfl
  rw [e1] at h1 h3 h4
  obtain ⟨hcl, hg⟩ := hC.yes hp
  exact ⟨h1, h2, _, h3, h4, hC.arm.trans d.on, hcl, hC.len.trans d.kl, d.hn, d.n4, hg⟩
theorem Wd.none (d : Wd w q g b m n h s r r') (hh : r.2.1 = false) {e : Ending} (hc : CoPost q g b m h w (delR s r) e w') :
    e = .returned (.int .i64 8) ∧ Kp (SB q g b m) w w' ∧ Wd w' q g b m n h s r r' := by
  obtain ⟨h1, h2, h3, h4⟩ := hc
  have e1 : delR s r = (8, s, r) := by unfold delR; rw [if_pos hh]
  rw [e1] at h1 h3 h4
  exact ⟨h1, h2, h3, h4, d.on, d.cl, d.kl, d.hn, d.n4, d.gd⟩

/-- Is it that? -/
def isThat (r : Nat × Bool × List Int) (x : Int) (hb : Bool) (xs : List Int) : Bool := (r.1 : Int) == x && (r.2.1 == hb && decide (r.2.2 = xs))
theorem isThat_self (r : Nat × Bool × List Int) : isThat r (r.1 : Int) r.2.1 r.2.2 = true := by unfold isThat; simp
set_option maxRecDepth 100000 in
theorem lsame_any (hs : Sto w q g b m h r) (hv : Byt w P v xs) (x : Int) (hb : Bool) :
    Calls Tryz.prog 20 #[.pointer (some ⟨q, 0, none⟩), .int .i64 x, .bool hb, v] w fun e w' => e = .returned (.bool (isThat r x hb xs)) ∧ Kp No w w' := by
  obtain ⟨a, has, img⟩ := r
  have HS := hid (show Str w q g b m h a has img from hs)
  have HV := hid hv
  clear hs
  unfold isThat
  obtain ⟨A, c, rfl, _, _, _, _⟩ := hv
  simp only
  obtain ⟨q1, hq1⟩ : ∃ q1, ((a : Int) == x) = q1 := ⟨_, rfl⟩
  obtain ⟨q2, hq2⟩ : ∃ q2, (has == hb) = q2 := ⟨_, rfl⟩
  obtain ⟨q3, hq3⟩ : ∃ q3, decide (img = xs) = q3 := ⟨_, rfl⟩
  have HQ3 := hid hq3
  rw [hq1, hq2, hq3]
  clear hq3
  cases q1
  · go_enter Tryz.func20, Tryz.ntmps20
    go_wp2_with (first
      | (go_at_call 25
         refine (image_any HS.out).mono ?_
         rintro e w1 ⟨u, rfl, o1, k1⟩
         have O1 := hid o1
         have K1 := hid k1
         clear o1 k1)
      | (go_at_call 26
         refine (age_any (HS.out.kp0 K1.out)).mono ?_
         rintro e w2 ⟨rfl, rfl⟩))
    go_ret
    exact ⟨rfl, K1.out⟩
  · cases q2
    · go_enter Tryz.func20, Tryz.ntmps20
      go_wp2_with (first
        | (go_at_call 25
           refine (image_any HS.out).mono ?_
           rintro e w1 ⟨u, rfl, o1, k1⟩
           have O1 := hid o1
           have K1 := hid k1
           clear o1 k1)
        | (go_at_call 26
           refine (age_any (HS.out.kp0 K1.out)).mono ?_
           rintro e w2 ⟨rfl, rfl⟩))
      go_ret
      exact ⟨rfl, K1.out⟩
    · go_enter Tryz.func20, Tryz.ntmps20
      go_wp2_with (first
        | (go_at_call 25
           refine (image_any HS.out).mono ?_
           rintro e w1 ⟨u, rfl, o1, k1⟩
           have O1 := hid (o1.byt (P := Anyb) fun _ _ => trivial)
           have K1 := hid k1
           clear o1 k1)
        | (go_at_call 26
           refine (age_any (HS.out.kp0 K1.out)).mono ?_
           rintro e w2 ⟨rfl, rfl⟩)
        | (go_at_call 33
           refine (same_any _ _ _ _ _ O1.out (HV.out.kp0 K1.out)).mono ?_
           rintro e w3 ⟨rfl, n3, rfl⟩
           rw [HQ3.out]))
      go_ret
      exact ⟨rfl, K1.out.drewN n3⟩
end
end Go.Proofs.YtgfkbkonelphaaaGreatDoor

/-
  Contracts of the laws' awake and walked.
-/
namespace Go.Proofs.YtgfkbkonelphaaaGreatDoor
open Go.RowKit

theorem Tab.ne {w : World} {g b m : Nat} (h : Tab w) (hg : w.heap.size ≤ g) (hb : w.heap.size ≤ b) (hm : w.heap.size ≤ m) : 0 ≠ g ∧ 0 ≠ b ∧ 0 ≠ m := by
  have := h.lt
  omega
section
variable {w w' : World} {P S : Nat → Prop} {q g b m n h a : Nat} {s : Ds} {r : Nat × Bool × List Int} {r' : Bool × List Int} {has qb : Bool} {img I xs : List Int} {v iv : Value}
/-- Its first number. -/
theorem Ops.cell0 {b o c k : Nat} {os : List Dop} (h : Ops w P (.slice (some ⟨b, o, none⟩) n c) os) (hk : k < os.length) : w.cell? ⟨b, o + k * 5, none⟩ = some (.int .i64 (os.getD k dop0).d) := by
  obtain ⟨b', o', e, _, hc⟩ := h.at' hk
  cases e
  exact hc 0 (by omega)
theorem Wd.first (d : Wd w q g b m 8 3 s (1, true, [7]) r') : (s.k.getD 5 []).getD 0 0 = 7 ∧ (s.k.getD 5 []).length = 64 := by
  have h5 : look s 5 = s.k.getD 5 [] := look_none (d.cl 5)
  have hl : (look s 5).length = 64 := (look_sec d.dk.ok (by rw [d.kl]; omega)).len
  rcases d.gd.new with ⟨h, _⟩ | ⟨_, _, _, _, hs, _, _⟩
  · cases h
  · rw [← h5]
    refine ⟨?_, hl⟩
    have e : slotB (look s) 3 (1 % 2) = look s 5 ++ (look s 6 ++ look s 7) := by
      simp [slotB, List.range_succ]
    rw [e] at hs
    simp only [List.length_cons, List.length_nil, Nat.zero_add] at hs
    rw [List.take_append_of_le_length (by omega)] at hs
    cases hx : look s 5 with
    | nil => rw [hx] at hl; simp at hl
    | cons y l =>
      rw [hx] at hs
      simp at hs
      simp [hs]
set_option maxHeartbeats 2000000 in
set_option maxRecDepth 100000 in
theorem awake_any (w : World) (ht : Tab w) : Calls Tryz.prog 4 #[] w fun e w' => e = .returned (.bool true) ∧ Kp No w w' := by
  have HT := hid ht
  clear ht
  go_enter Tryz.func4, Tryz.ntmps4
  go_upto_region 10 with (first
    | (go_at_call 6
       refine (newd_any 8 w).mono ?_
       rintro e w1 ⟨g, b, m, rfl, D1, k1, hg, hb, hm⟩
       have HD1 := hid (show Dk w1 g b m (dsN 8) from D1)
       have K1 := hid k1
       clear D1 k1)
    | (go_at_call 8
       refine (open_is HD1.out (HT.out.kp0 K1.out) rfl (by simp [dsN])).mono ?_
       rintro e w2 ⟨q, rfl, hq, s2, k2⟩
       have W2 := hid (wd_new (n := 8) (HD1.out.kp0 k2) (by simpa [dsN] using s2) (by omega) (by omega))
       have K2 := hid (K1.out.trans k2)
       have HQ := hid (show w.heap.size ≤ q from Nat.le_trans K1.out.size hq)
       clear s2 k2 hq)
    | (go_at_call 10
       refine (commit_any (P := Anyb) (W2.out.dk.kp0 ((Kp.refl No w2).alloc (.cells #[.int .u8 7] 5))) (Str.kp0 W2.out.st ((Kp.refl No w2).alloc (.cells #[.int .u8 7] 5))) (HT.out.kp0 (K2.out.alloc _)) W2.out.two (Byt.one _ _ 7 (by omega) trivial) (by simp) (HT.out.ne hg hb hm)).mono ?_
       intro e w3 hc
       obtain ⟨rfl, k3, s3, W3⟩ := (W2.out.kp0 ((Kp.refl No w2).alloc (.cells #[.int .u8 7] 5))).com (I := [7]) (by simp) (by simp) hc
       have HW3 := hid W3
       have K3 := hid (show Kp No w w3 from (K2.out.alloc (.cells #[.int .u8 7] 5)).step k3 fun i hi e => by have := HQ.out; rcases e with e | e | e | e <;> omega)
       clear hc k3 W3)
    | (go_at_call 24
       refine (kept_any HW3.out.dk).mono ?_
       rintro e w4 ⟨v4, rfl, ks4, k4⟩
       obtain ⟨A4, c4, rfl⟩ := ks4.formN HW3.out.kl
       have KS4 := hid ks4.kr
       have W4 := hid (HW3.out.kp0 k4)
       have K4 := hid (K3.out.trans k4)
       clear ks4 k4)
    | (go_at_call 25
       refine (image_any (show Str w4 q g b m 3 1 true [7] from W4.out.st)).mono ?_
       rintro e w5 ⟨u5, rfl, o5, k5⟩
       have KS5 := hid (KS4.out.kp0 k5)
       have W5 := hid (W4.out.kp0 k5)
       have K5 := hid (K4.out.trans k5)
       have B5 := hid (o5.byt (P := Anyb) fun _ _ => trivial)
       clear o5 k5))
  obtain ⟨A5, c5, rfl, hc5, hm5, _, hr5⟩ := id B5.out
  obtain ⟨b5, o5, rfl, _, _, hcell5⟩ := hr5 (by simp)
  have z0 := hcell5 0 (by simp)
  obtain ⟨rb, ro, qk, rfl, ck, _, _, _, bk⟩ := KS5.out.get (j := 5) (by rw [W5.out.kl]; omega)
  obtain ⟨f1, f2⟩ := W5.out.first
  have cq := bk.cell 0
  rw [List.getElem?_toArray, sc_at (by rw [f2]; omega), f1] at cq
  simp only [List.getD_cons_zero, Nat.add_zero] at z0
  simp only [List.length_cons, List.length_nil, Nat.zero_add] at hc5
  clear hcell5 hr5 f1 f2 bk
  go_wp2_with (first
    | (go_at_call 26
       refine (age_any (show Str w5 q g b m 3 1 true [7] from W5.out.st)).mono ?_
       rintro e w6 ⟨rfl, rfl⟩)
    | (go_at_call 21
       refine (room_any (show Str w6 q g b m 3 1 true [7] from W5.out.st)).mono ?_
       rintro e w7 ⟨rfl, rfl⟩))
  go_ret
  exact ⟨rfl, K5.out⟩

def WkPost (w : World) (e : Ending) (w' : World) : Prop := ∃ q g b m s r r', e = .returned (.tuple #[.pointer (some ⟨g, 0, none⟩), .pointer (some ⟨q, 0, none⟩)]) ∧ Wd w' q g b m 40 19 s r r' ∧ r.1 ≤ 20 ∧ (w.heap.size ≤ q ∧ w.heap.size ≤ g ∧ w.heap.size ≤ b ∧ w.heap.size ≤ m) ∧ Kp No w w'
end
end Go.Proofs.YtgfkbkonelphaaaGreatDoor

/-
  A crash where nothing waits; the store that is found behind one.
-/
namespace Go.Proofs.YtgfkbkonelphaaaGreatDoor
open Go.RowKit

section
variable {w w' : World} {P S : Nat → Prop} {q g b m n h a : Nat} {s : Ds} {r : Nat × Bool × List Int} {r' : Bool × List Int}
/-- Its first number, and its bytes. -/
theorem Ops.cell03 {b o c k n : Nat} {os : List Dop} (h : Ops w P (.slice (some ⟨b, o, none⟩) n c) os) (hk : k < os.length) : w.cell? ⟨b, o + k * 5, none⟩ = some (.int .i64 (os.getD k dop0).d) ∧ w.cell? ⟨b, o + k * 5 + 3, none⟩ = some (os.getD k dop0).bv := by
  obtain ⟨b', o', e, _, hc⟩ := h.at' hk
  cases e
  exact ⟨hc 0 (by omega), hc 3 (by omega)⟩
theorem crash_k {s : Ds} (hc : ∀ j : Nat, s.c (j : Int) = none) (keep : List Bool) : (crashed s keep).k = s.k := by
  refine List.ext_getElem (crashed_len s keep) fun i h1 h2 => ?_
  have e1 := crashed_at keep h2
  rw [if_neg (by rw [hc i]; simp)] at e1
  simpa [List.getD, h1, h2] using e1
theorem crash_look {s : Ds} (hc : ∀ j : Nat, s.c (j : Int) = none) (keep : List Bool) : look (crashed s keep) = look s := by
  funext j
  rw [look_crash_none keep (hc j), look_none (hc j)]
/-- A store of another block on the same disk. -/
theorem Wd.other (d : Wd w q g b m n h s r r') {q' : Nat} (hs : Sto w q' g b m h (opn (look s) h)) : Wd w q' g b m n h s r r' := by
  rw [d.found] at hs
  exact ⟨d.dk, hs, d.on, d.cl, d.kl, d.hn, d.n4, d.gd⟩
theorem Sto.kpd (hs : Sto w q g b m h r) (k : Kp S w w') (h1 : ∀ i, S i → DB g b m i) : Sto w' q g b m h r := Str.kpd hs k h1
theorem Sto.kp0 (hs : Sto w q g b m h r) (k : Kp No w w') : Sto w' q g b m h r := Str.kp0 hs k
end
end Go.Proofs.YtgfkbkonelphaaaGreatDoor

/-
  append onto things that are done; what is found behind a crash in one of them.
-/
namespace Go.Proofs.YtgfkbkonelphaaaGreatDoor
open Go.RowKit

theorem OpOk.one {w : World} {P : Nat → Prop} {o : Dop} (h : OpOk w P o) (i : Nat) : (dc o i).oneCell' = true := by
  unfold dc
  split
  · rfl
  · rfl
  · rfl
  · obtain ⟨A, c, e, _⟩ := h.b
    rw [e]
    rfl
  · obtain ⟨A, c, e, _⟩ := h.k
    rw [e]
    rfl
theorem flat_oneM {α : Type} {n : Nat} {f : α → Nat → Value} (xs : List α) (hc : ∀ x ∈ xs, ∀ i, (f x i).oneCell' = true) : ∀ u ∈ flat n f xs, u.oneCell' = true := by
  induction xs with
  | nil => simp [flat]
  | cons x l ih =>
    intro u hu
    simp only [flat, List.mem_append, List.mem_map] at hu
    rcases hu with ⟨i, _, rfl⟩ | hu
    · exact hc x (by simp) i
    · exact ih (fun y hy => hc y (by simp [hy])) u hu
theorem usOp : Us Tryz.prog 22 39 5 72 (.agg #[.int .i64 0, .int .i64 0, .int .i64 0, .slice none 0 0, .slice none 0 0]) := ⟨by kernel_rfl, by kernel_rfl, by decide, by decide⟩

section
variable {w w' : World} {P : Nat → Prop} {o : Dop} {os : List Dop} {v x : Value}
theorem run_appo {ty : TypeId} (w : World) {base : Nat} {xs ys : List Dop} (hown : Ow w base 39 5 dc v xs) (hx : Ops w P x ys)
    (hle : (xs.length + ys.length) * 72 ≤ 140737488355328) (hbase : base ≤ w.heap.size) :
    ∃ v' w', (Builtin.append_ #[22, 22] ty #[v, x]).run Tryz.prog w = .ok v' w' ∧ Ow w' base 39 5 dc v' (xs ++ ys) ∧ w.grownBy w' v.ownBlock := by
  have u := usOp
  obtain ⟨i, hi, hz, hs, hb⟩ := info_parts u.info
  have hone := flat_oneM (n := 5) (f := dc) ys fun y hy i => (hx.ok y hy).one i
  obtain ⟨A, c, rfl, hc, hm, h⟩ := hx.rw
  rcases A with _ | ad
  · have h0 : ys = [] := by
      rcases ys with _ | ⟨y, ys⟩
      · rfl
      · obtain ⟨b, o, h, _⟩ := h (by simp)
        cases h
    subst h0
    refine ⟨v, w, ?_, by simpa using hown, World.grownBy.refl w _⟩
    rcases hown.2 with ⟨rfl, h0⟩ | ⟨g, cap, cur, rfl, _, _, hnc, _⟩
    · simp [Builtin.append_, run_underlying u.un, sizeOf, typeInfo, hi, Builtin.lenOf, Builtin.firstCells]
    · simp [Builtin.append_, run_underlying u.un, sizeOf, typeInfo, hi, Builtin.lenOf, Builtin.firstCells, hnc, storeCells]
  · have hcell : ∀ j q, (flat 5 dc ys)[j]? = some q → w.cell? (ad.add j) = some q := by
      intro j q hq
      obtain ⟨k, i, hk, hi, rfl, rfl⟩ := flat_get (d := dop0) ys hq
      obtain ⟨b, o, he, _, _, hcell⟩ := h (by omega)
      cases he
      have ha : (⟨b, o, none⟩ : Addr).add (k * 5 + i) = ⟨b, o + (k * 5 + i), none⟩ := by unfold Addr.add; split <;> simp_all
      rw [ha, hcell k i hk hi]
    obtain ⟨v', w', hrun, h2, h3, _, _⟩ := run_append_own_at (P := Tryz.prog) w base _ ty _ i _ 5 72 u.un hi hz hs hb u.zero u.pos v xs.length _ hown ad ys.length c (flat 5 dc ys) (flat_len ys) hcell hone (by simp only [maxLen]; omega) hle hbase
    refine ⟨v', w', hrun, ?_, h3⟩
    unfold Ow
    rw [List.length_append, flat_app]
    exact h2
theorem wp_appo {ops : Array Oper} {rest : List Oper} {op : Oper} {a : Act} {w : World} {Q : Exit → Act → World → Prop} (hw : Region.wanted op (yielded ops a.tmps) = true) (s t : Operand)
    (ho : op.op = .call { callee := .builtin .append, args := #[s, t], argTypes := #[22, 22] }) {base : Nat} {xs ys : List Dop}
    (hown : Ow w base 39 5 dc (a.eval s) xs) (hx : Ops w P (a.eval t) ys) (hle : (xs.length + ys.length) * 72 ≤ 140737488355328) (hbase : base ≤ w.heap.size)
    (h : ∀ v' w', Ow w' base 39 5 dc v' (xs ++ ys) → Kp (fun k => base ≤ k) w w' → wpList Tryz.prog ops Q rest (a.put op.dst v') w') : wpList Tryz.prog ops Q (op :: rest) a w := by
  refine BigFrame.wpList_want hw fun K hK => ?_
  obtain ⟨v', w', hrun, h2, h3⟩ := run_appo (ty := op.type) w hown hx hle hbase
  unfold Oper.wp execOp
  simp only [ho, resolve, invoke, builtin, Sem.run_bind, Sem.run_pure, Result.andThen_ok, List.map_toArray, List.map_cons, List.map_nil, hrun]
  exact hK _ _ (h v' w' h2 ((Kp.refl _ _).grown h3 fun k hk => .inl (hown.at_ k hk)))
/-- One that was just laid in a block of its own. -/
theorem Ow.oneO (w : World) (o : Dop) : Ow (w.alloc (.cells #[dc o 0, dc o 1, dc o 2, dc o 3, dc o 4] 39)) w.heap.size 39 5 dc (.slice (some ⟨w.heap.size, 0, none⟩) 1 1) [o] :=
  ⟨by simp [flat], .inr ⟨w.heap.size, 1, _, rfl, Nat.le_refl _, heap_alloc_new w _, Nat.le_refl _, by simp [maxLen], by simp, by simp [flat, List.range_succ]⟩⟩
end

section
variable {w w' : World} {P S : Nat → Prop} {q g b m n h a : Nat} {s : Ds} {r : Nat × Bool × List Int} {r' : Bool × List Int} {I : List Int}
/-- What comes of one that the disk may end: the code's truth, and what is found behind a crash. -/
def Aft (h n : Nat) (r new : Nat × Bool × List Int) (keep : List Bool) (p : Ds × Bool) : Prop :=
  p.1.k.length = n ∧ ((p.2 = true ∧ opn (look (crashed p.1 keep)) h = new) ∨ (p.2 = false ∧ opn (look (crashed p.1 keep)) h = r) ∨ (p.2 = false ∧ opn (look (crashed p.1 keep)) h = new))
theorem Came.aft {s0 : Ds} {V0 : Nat → List Int} {qn : Bool} {i : List Int} {p : Ds × Bool} (hC : Came s0 V0 h r.1 r.2.1 r.2.2 qn i p) (hk : s0.k.length = n) (keep : List Bool) : Aft h n r (r.1 + 1, qn, i) keep p := by
  refine ⟨hC.len.trans hk, ?_⟩
  cases hp : p.2 with
  | true =>
    obtain ⟨hcl, hg⟩ := hC.yes hp
    refine .inl ⟨rfl, ?_⟩
    rw [crash_look hcl]
    exact hg.found
  | false =>
    rcases hC.no hp keep with e | e
    · exact .inr (.inl ⟨rfl, e⟩)
    · exact .inr (.inr ⟨rfl, e⟩)
theorem Wd.aft_com (d : Wd w q g b m n h s r r') (c : Int) (hI : I.length ≤ 64 * h) (ha : r.1 + 1 ≤ 1099511627776) (keep : List Bool) : Aft h n r (r.1 + 1, true, I) keep (comD (armedBy s c) h (r.1 + 1) I) :=
  (comD_is (s := armedBy s c) (h := h) (i := I) d.cl d.two d.sec d.gd hI ha).aft d.kl keep
theorem Wd.aft_del (d : Wd w q g b m n h s r r') (c : Int) (ha : r.1 + 1 ≤ 1099511627776) (keep : List Bool) : Aft h n r (r.1 + 1, false, []) keep (sealD (armedBy s c) (r.1 + 1) false []) :=
  (delD_is (s := armedBy s c) (h := h) d.cl (by have := d.two; show 2 ≤ s.k.length; omega) d.gd ha).aft d.kl keep
theorem Wd.aft_none (d : Wd w q g b m n h s r r') (c : Int) (keep : List Bool) : (armedBy s c).k.length = n ∧ opn (look (crashed (armedBy s c) keep)) h = r := by
  refine ⟨d.kl, ?_⟩
  rw [crash_look (s := armedBy s c) d.cl keep]
  exact d.found
end
end Go.Proofs.YtgfkbkonelphaaaGreatDoor

/-
  What comes in: slices of things that are done (structs of three ints, a slice of bytes, a slice of bools).
-/
namespace Go.Proofs.YtgfkbkonelphaaaGreatDoor
open Go.ChangeShapes Go.WideShapes Go.RowKit Go.Joins Go.Deep

section
variable {H : Type} {enc : TypeId × Value → H} {P : Program} {w : World} {base : Nat} {spare : Nat → Bool} {held : Bool} {t e : TypeId}
/-- A slice of structs that came in, each of n cells. -/
theorem open_rows {α : Type} {n : Nat} {f : α → Nat → Value} {d : α} {fuel : Nat} {A : Option Addr} {len cap : Nat} {x : DataW H × List MemPlace} (ht : P.underlying t = some (.slice e)) (hn : 0 < n) (hC : P.cellsOf e = n)
    (hel : ∀ (fuel : Nat) (cs : List Value) (y : DataW H × List MemPlace), DataW.trod enc P w base spare held fuel e cs = some y → ∃ q : α, ∀ j, j < n → cs[j]? = some (f q j))
    (h : DataW.trod enc P w base spare held fuel t [.slice A len cap] = some x) : ∃ xs : List α, Rw n f d w Anyb (.slice A len cap) xs := by
  rcases open_slice ht h with ⟨hcs, _⟩ | ⟨a, l, c, m, k, D, Pl, hcs, _, hl, hm, hmm, _, hi⟩
  · simp at hcs
    obtain ⟨rfl, rfl, rfl⟩ := hcs
    exact ⟨[], Rw.nil _ _ _ w Anyb⟩
  · simp at hcs
    obtain ⟨rfl, rfl, rfl⟩ := hcs
    have hlm : len ≤ m := by rw [hmm]; split <;> omega
    have hx : ∀ i : Nat, ∃ q : α, i < len → ∀ j, j < n → w.cell? (a.add (i * n + j)) = some (f q j) := by
      intro i
      by_cases hlt : i < len
      · obtain ⟨cs', hc, ht'⟩ := hi i (by omega)
        obtain ⟨q, hq⟩ := hel _ _ _ ht'
        rw [hC] at hc
        obtain ⟨_, _, hat⟩ := World.cells?_some hc
        refine ⟨q, fun _ j hj => ?_⟩
        have := hat j hj
        rw [Go.Deep.add_add] at this
        rw [this]
        have h1 := hq j hj
        simp [h1]
      · exact ⟨d, fun h => absurd h hlt⟩
    refine ⟨(List.range len).map fun i => (hx i).choose, ⟨some a, cap, by simp, by simpa using hl, hm, fun h0 => ?_⟩⟩
    have hpos : 0 < len := by simpa using h0
    obtain ⟨b, o, spot⟩ := a
    have hc0 := (hx 0).choose_spec hpos 0 hn
    have hsp : spot = none := by simpa [Addr.add] using World.cell?_spot hc0
    subst hsp
    refine ⟨b, o, rfl, by simpa [Addr.add] using World.block_lt_of_cell? w _ hc0, trivial, fun j i hj hi3 => ?_⟩
    have hj' : j < len := by simpa using hj
    have ha : (⟨b, o, none⟩ : Addr).add (j * n + i) = ⟨b, o + (j * n + i), none⟩ := by unfold Addr.add; split <;> simp_all
    rw [← ha, (hx j).choose_spec hj' i hi3]
    simp [List.getD, hj']


theorem trod_i64 {fuel : Nat} {c : Value} {y : DataW H × List MemPlace} (ht : P.underlying t = some (.int .i64)) (h : DataW.trod enc P w base spare held fuel t [c] = some y) : ∃ x : Int, c = .int .i64 x ∧ I64 x := by
  obtain ⟨x, e0, _, wx⟩ := DataW.trod_int ht h
  simp at e0
  exact ⟨x, e0, bounds_i64 wx⟩
theorem trod_bytes {fuel : Nat} {c : Value} {y : DataW H × List MemPlace} (ht : P.underlying t = some (.slice e)) (he : P.underlying e = some (.int .u8)) (hc : P.cellsOf e = 1) (h : DataW.trod enc P w base spare held fuel t [c] = some y) : ∃ xs, Byt w Anyb c xs := by
  rcases open_ints ht he hc h with ⟨hcs, _⟩ | ⟨x, l, cp, zs, hcs, _, hl, hm, hz, _, hcell, hwz⟩
  · simp at hcs
    subst hcs
    exact ⟨[], Byt.nil w Anyb⟩
  · simp at hcs
    subst hcs
    have hlz : l ≤ zs.length := by rw [hz]; split <;> omega
    have hlen : (zs.take l).length = l := by simp; omega
    refine ⟨zs.take l, some x, cp, by rw [hlen], by omega, hm, fun n hn => bounds_u8 (hwz n (List.mem_of_mem_take hn)), fun h0 => ?_⟩
    rw [hlen] at h0 ⊢
    obtain ⟨b, o, spot⟩ := x
    have h1 := hcell 0 (by omega)
    have hs : spot = none := by simpa [Addr.add] using World.cell?_spot h1
    subst hs
    refine ⟨b, o, rfl, by simpa [Addr.add] using World.block_lt_of_cell? w _ h1, trivial, fun j hj => ?_⟩
    have ha : (⟨b, o, none⟩ : Addr).add j = ⟨b, o + j, none⟩ := by unfold Addr.add; split <;> simp_all
    rw [← ha, hcell j (by omega)]
    simp [List.getD, hj]
theorem trod_bools {fuel : Nat} {c : Value} {y : DataW H × List MemPlace} (ht : P.underlying t = some (.slice e)) (he : P.underlying e = some .bool) (hc : P.cellsOf e = 1) (h : DataW.trod enc P w base (fun _ => true) held fuel t [c] = some y) : ∃ xs, Sl Value.bool false w Anyb c xs := by
  rcases Go.Deep.open_bools ht he hc h with ⟨hcs, _⟩ | ⟨x, l, cp, B, hcs, _, hl, hm, _, hcell⟩
  · simp at hcs
    subst hcs
    exact ⟨[], Sl.nil _ _ w Anyb⟩
  · simp at hcs
    subst hcs
    exact ⟨_, Sl.of_fun hl hm hcell⟩

theorem cells_dop {f0 f1 f2 f3 f4 : Field} {e8 eb : TypeId} {fuel : Nat} {cs : List Value} {x : DataW H × List MemPlace} (hs : P.underlying e = some (.struct #[f0, f1, f2, f3, f4])) (hone : oneCellFields P #[f0, f1, f2, f3, f4] = true) (hC : P.cellsOf e = 5)
    (h0 : P.underlying f0.type = some (.int .i64)) (h1 : P.underlying f1.type = some (.int .i64)) (h2 : P.underlying f2.type = some (.int .i64)) (h3 : P.underlying f3.type = some (.slice e8)) (h4 : P.underlying f4.type = some (.slice eb)) (u8 : P.underlying e8 = some (.int .u8)) (c8 : P.cellsOf e8 = 1) (ub : P.underlying eb = some .bool) (cb : P.cellsOf eb = 1)
    (h : DataW.trod enc P w base (fun _ => true) held fuel e cs = some x) : ∃ o : Dop, cs = [dc o 0, dc o 1, dc o 2, dc o 3, dc o 4] ∧ OpOk w Anyb o := by
  obtain ⟨ys, n, _, _, hl, hyl, hf⟩ := DataW.trod_struct hs h
  rw [hC] at hl
  match cs, hl with
  | [a, b, c, d, f], _ =>
    match ys, hyl with
    | [y0, y1, y2, y3, y4], _ =>
      obtain ⟨o0, k0⟩ := hone_of hone 0 f0 rfl
      obtain ⟨o1, k1⟩ := hone_of hone 1 f1 rfl
      obtain ⟨o2, k2⟩ := hone_of hone 2 f2 rfl
      obtain ⟨o3, k3⟩ := hone_of hone 3 f3 rfl
      obtain ⟨o4, k4⟩ := hone_of hone 4 f4 rfl
      have g0 := hf 0 f0 rfl
      have g1 := hf 1 f1 rfl
      have g2 := hf 2 f2 rfl
      have g3 := hf 3 f3 rfl
      have g4 := hf 4 f4 rfl
      rw [o0, k0] at g0
      rw [o1, k1] at g1
      rw [o2, k2] at g2
      rw [o3, k3] at g3
      rw [o4, k4] at g4
      obtain ⟨x0, rfl, i0⟩ := trod_i64 h0 (by simpa using g0)
      obtain ⟨x1, rfl, i1⟩ := trod_i64 h1 (by simpa using g1)
      obtain ⟨x2, rfl, i2⟩ := trod_i64 h2 (by simpa using g2)
      obtain ⟨xs, b3⟩ := trod_bytes (c := d) h3 u8 c8 (by simpa using g3)
      obtain ⟨ks, b4⟩ := trod_bools (c := f) h4 ub cb (by simpa using g4)
      exact ⟨⟨x0, x1, x2, d, xs, f, ks⟩, rfl, i0, i1, i2, b3, b4⟩
end

section
variable {H : Type} {enc : TypeId × Value → H} {w : World} {base : Nat} {held : Bool}
theorem I64.zero : I64 0 := by unfold I64; omega
theorem dop0_ok (w : World) : OpOk w Anyb dop0 := ⟨I64.zero, I64.zero, I64.zero, Byt.nil w Anyb, Sl.nil _ _ w Anyb⟩
set_option maxRecDepth 100000 in
/-- A slice of things that are done. -/
theorem open_dops {fuel : Nat} {A : Option Addr} {len cap : Nat} {x : DataW H × List MemPlace} (h : DataW.trod enc Tryz.prog w base (fun _ => true) held fuel 22 [.slice A len cap] = some x) : ∃ xs : List Dop, Ops w Anyb (.slice A len cap) xs := by
  obtain ⟨xs, hx⟩ := open_rows (n := 5) (α := { o : Dop // OpOk w Anyb o }) (f := fun q j => dc q.1 j) (d := ⟨dop0, dop0_ok w⟩) Tryz.underlying22 (by omega) (by kernel_rfl) (fun fuel cs y hy => by
    obtain ⟨q, rfl, hi⟩ := cells_dop (P := Tryz.prog) Tryz.underlying39 (by kernel_rfl) (by kernel_rfl) Tryz.underlying3 Tryz.underlying3 Tryz.underlying3 Tryz.underlying36 Tryz.underlying37 Tryz.underlying5 (by kernel_rfl) Tryz.underlying4 (by kernel_rfl) hy
    refine ⟨⟨q, hi⟩, fun j hj => ?_⟩
    match j, hj with
    | 0, _ => rfl
    | 1, _ => rfl
    | 2, _ => rfl
    | 3, _ => rfl
    | 4, _ => rfl) h
  refine ⟨xs.map Subtype.val, ⟨?_, fun o ho => ?_⟩⟩
  · obtain ⟨A', c, he, hc, hm, hr⟩ := hx
    refine ⟨A', c, by rw [List.length_map]; exact he, by rw [List.length_map]; exact hc, hm, fun h0 => ?_⟩
    rw [List.length_map] at h0
    obtain ⟨b, o, h1, h2, h3, h4⟩ := hr h0
    refine ⟨b, o, h1, h2, h3, fun j i hj hi => ?_⟩
    rw [List.length_map] at hj
    rw [h4 j i hj hi]
    simp [List.getD, hj]
  · obtain ⟨q, _, rfl⟩ := List.mem_map.1 ho
    exact q.2
theorem open_len {P : Program} {t e : TypeId} {N fuel : Nat} {A : Option Addr} {len cap : Nat} {x : DataW H × List MemPlace} (ht : P.underlying t = some (.slice e)) (hN : ∀ m ∈ x.1.weights P t, m ≤ N)
    (h : DataW.trod enc P w base (fun _ => true) held fuel t [.slice A len cap] = some x) : len * P.bytesOf e ≤ N := by
  rcases open_slice ht h with ⟨hcs, _⟩ | ⟨a, l, c, m, k, D, Pl, hcs, _, hl, hm, hmm, hxx, hi⟩
  · simp at hcs
    obtain ⟨rfl, rfl, rfl⟩ := hcs
    simp
  · simp at hcs
    obtain ⟨rfl, rfl, rfl⟩ := hcs
    have hlm : len ≤ m := by rw [hmm]; split <;> omega
    have h1 := hN (((((List.range len).map D).length) + _) * P.bytesOf e) (by
      rw [hxx]
      simp only [DataW.weights, ht]
      exact List.mem_cons_self)
    rw [List.length_map, List.length_range] at h1
    exact Nat.le_trans (Nat.mul_le_mul_right _ (Nat.le_add_right _ _)) h1
theorem bytOp : Tryz.prog.bytesOf 39 = 72 := by kernel_rfl
/-- .. with how many there may be. -/
theorem open_dopsw {N fuel : Nat} {A : Option Addr} {len cap : Nat} {x : DataW H × List MemPlace} (h : DataW.trod enc Tryz.prog w base (fun _ => true) held fuel 22 [.slice A len cap] = some x) (hN : ∀ m ∈ x.1.weights Tryz.prog 22, m ≤ N) : ∃ xs : List Dop, Ops w Anyb (.slice A len cap) xs ∧ xs.length * 72 ≤ N := by
  obtain ⟨xs, hx⟩ := open_dops h
  refine ⟨xs, hx, ?_⟩
  have h1 := open_len Tryz.underlying22 hN h
  rw [bytOp] at h1
  obtain ⟨A', c, he, _⟩ := hx.rw
  injection he with _ e2 _
  rw [← e2]
  exact h1
/-- One of them, by value. -/
theorem open_dop {fuel : Nat} {fs : Array Value} {x : DataW H × List MemPlace} (h : DataW.trod enc Tryz.prog w base (fun _ => true) held fuel 39 fs.toList = some x) : ∃ o : Dop, fs = #[dc o 0, dc o 1, dc o 2, dc o 3, dc o 4] ∧ OpOk w Anyb o := by
  obtain ⟨q, hq, hi⟩ := cells_dop (P := Tryz.prog) Tryz.underlying39 (by kernel_rfl) (by kernel_rfl) Tryz.underlying3 Tryz.underlying3 Tryz.underlying3 Tryz.underlying36 Tryz.underlying37 Tryz.underlying5 (by kernel_rfl) Tryz.underlying4 (by kernel_rfl) h
  exact ⟨q, by cases fs; simp_all, hi⟩
set_option maxRecDepth 100000 in
/-- One of them that comes in by value. -/
theorem open_sop {r : Reach} {b0 : Nat} {v : Value} {d : DataW H} {p : List MemPlace} (hv : Value.okWide Tryz.prog w r b0 39 v) (h : DataW.Trod enc Tryz.prog w base (fun _ => true) held 39 v d p) :
    ∃ o : Dop, v = .agg #[dc o 0, dc o 1, dc o 2, dc o 3, dc o 4] ∧ OpOk w Anyb o := by
  obtain ⟨cs, rfl, hsz⟩ := okWide_struct Tryz.underlying39 hv
  obtain ⟨fuel, hf⟩ := h
  obtain ⟨m, hm, hi⟩ := cells_dop (P := Tryz.prog) Tryz.underlying39 (by kernel_rfl) (by kernel_rfl) Tryz.underlying3 Tryz.underlying3 Tryz.underlying3 Tryz.underlying36 Tryz.underlying37 Tryz.underlying5 (by kernel_rfl) Tryz.underlying4 (by kernel_rfl) hf
  exact ⟨m, congrArg Value.agg (Array.toList_inj.1 (by simpa [Value.cells] using hm)), hi⟩
end
end Go.Proofs.YtgfkbkonelphaaaGreatDoor
