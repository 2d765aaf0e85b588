/-
  Contracts of the program's Commit and Delete.
-/
import Derived.Test.YtgfkbkonelphaaaGreatDoorSlO
import Derived.Test.YtgfkbkonelphaaaGreatDoorSlK
namespace Go.Proofs.YtgfkbkonelphaaaGreatDoor
open Go.RowKit

/-- What a commit, a deletion leaves: the code, the disk, what the store has. -/
def comR (s : Ds) (h : Nat) (r : Nat × Bool × List Int) (i : List Int) : Int × Ds × (Nat × Bool × List Int) :=
  if 64 * h < i.length then (22, s, r) else if r.1 = 1099511627776 then (6, s, r) else
  (cod (comD s h (r.1 + 1) i).2, (comD s h (r.1 + 1) i).1, pick (comD s h (r.1 + 1) i).2 (r.1 + 1, true, i) r)
def delR (s : Ds) (r : Nat × Bool × List Int) : Int × Ds × (Nat × Bool × List Int) :=
  if r.2.1 = false then (8, s, r) else if r.1 = 1099511627776 then (6, s, r) else
  (cod (sealD s (r.1 + 1) false []).2, (sealD s (r.1 + 1) false []).1, pick (sealD s (r.1 + 1) false []).2 (r.1 + 1, false, []) r)
section
variable {w w' : World} {P S : Nat → Prop} {q g b m h a N : Nat} {s : Ds} {has qb : Bool} {img I xs : List Int} {v iv : Value}
def CoPost (q g b m h : Nat) (w : World) (R : Int × Ds × (Nat × Bool × List Int)) (e : Ending) (w' : World) : Prop := e = .returned (.int .i64 R.1) ∧ Kp (SB q g b m) w w' ∧ Dk w' g b m R.2.1 ∧ Sto w' q g b m h R.2.2
theorem Str.sto (hs : Str w q g b m h a has img) : Sto w q g b m h (a, has, img) := hs

set_option maxRecDepth 100000 in
set_option maxHeartbeats 1000000 in
theorem delete_any (h0 : Dk w g b m s) (hs : Str w q g b m h a has img) (ht : Tab w) (hn : 2 ≤ s.k.length) :
    Calls Tryz.prog 12 #[.pointer (some ⟨q, 0, none⟩)] w (CoPost q g b m h w (delR s (a, has, img))) := by
  obtain ⟨A, c, c0, c1, c2, c3, c4, _⟩ := hs.cells
  have HD := hid h0
  have HS := hid hs
  have HT := hid ht
  have ha := hs.age
  clear h0 hs ht
  cases has with
  | false =>
    have HR := hid (show delR s (a, false, img) = (8, s, a, false, img) from rfl)
    go_enter Tryz.func12, Tryz.ntmps12
    go_wp2
    go_ret
    unfold CoPost
    rw [HR.out]
    exact ⟨rfl, Kp.refl _ _, HD.out, HS.out⟩
  | true =>
    by_cases h40 : a = 1099511627776
    · subst h40
      have HR := hid (show delR s (1099511627776, true, img) = (6, s, 1099511627776, true, img) from rfl)
      have e1 : (((1099511627776 : Nat) : Int) == 1099511627776) = true := by decide
      go_enter Tryz.func12, Tryz.ntmps12
      go_wp2
      go_ret
      unfold CoPost
      rw [HR.out]
      exact ⟨rfl, Kp.refl _ _, HD.out, HS.out⟩
    · have HR := hid (show delR s (a, true, img) = (cod (sealD s (a + 1) false []).2, (sealD s (a + 1) false []).1, pick (sealD s (a + 1) false []).2 (a + 1, false, []) (a, true, img)) by
        unfold delR
        rw [if_neg (by simp), if_neg (by exact h40)])
      have e1 : ((a : Int) == 1099511627776) = false := by rw [beq_eq_false_iff_ne]; omega
      have hw := wrapI (x := (a : Int) + 1) (by unfold I64; omega)
      have HA := hid (show (a : Int) + 1 = ((a + 1 : Nat) : Int) by omega)
      go_enter Tryz.func12, Tryz.ntmps12
      go_wp2_with (first
        | (go_at_call 37
           rw [HA.out]
           refine (turn_any HD.out HS.out HT.out hn (N := a + 1) (qb := false) (Byu.nil _ _) ⟨by simp only; omega, by simp, fun _ => rfl⟩).mono ?_
           rintro e w1 ⟨rfl, k1, d1, s1⟩
           have K1 := hid k1
           have D1 := hid d1
           have S1 := hid s1
           clear k1 d1 s1))
      go_ret
      unfold CoPost
      rw [HR.out]
      exact ⟨rfl, K1.out, D1.out, S1.out⟩
set_option maxRecDepth 100000 in
set_option maxHeartbeats 1000000 in
theorem commit_any (h0 : Dk w g b m s) (hs : Str w q g b m h a has img) (ht : Tab w) (hn : 2 + 2 * h ≤ s.k.length) (hv : Byt w P v I) (hI : I.length ≤ 100000000) (htq : 0 ≠ g ∧ 0 ≠ b ∧ 0 ≠ m) :
    Calls Tryz.prog 10 #[.pointer (some ⟨q, 0, none⟩), v] w (CoPost q g b m h w (comR s h (a, has, img) I)) := by
  obtain ⟨A0, c0', c0, c1, c2, c3, c4, _⟩ := hs.cells
  have HD := hid h0
  have HS := hid hs
  have HT := hid ht
  have HV := hid hv
  have ha := hs.age
  have hh := hs.hh
  have hql := hs.lt
  have hdl := h0.lts
  obtain ⟨A, c, rfl, hc, hm, _, _⟩ := hv
  clear h0 hs ht
  by_cases hl : 64 * h < I.length
  · have HR := hid (show comR s h (a, has, img) I = (22, s, a, has, img) by unfold comR; rw [if_pos hl])
    have g1 : ((64 * h : Nat) : Int) < (I.length : Int) := by omega
    go_enter Tryz.func10, Tryz.ntmps10
    go_wp2_with (first
      | (go_at_call 21
         refine (room_any HS.out).mono ?_
         rintro e w1 ⟨rfl, rfl⟩))
    go_ret
    unfold CoPost
    rw [HR.out]
    exact ⟨rfl, Kp.refl _ _, HD.out, HS.out⟩
  have g1 : ¬ ((64 * h : Nat) : Int) < (I.length : Int) := by omega
  by_cases h40 : a = 1099511627776
  · subst h40
    have HR := hid (show comR s h (1099511627776, has, img) I = (6, s, 1099511627776, has, img) by unfold comR; rw [if_neg hl, if_pos rfl])
    have e1 : (((1099511627776 : Nat) : Int) == 1099511627776) = true := by decide
    go_enter Tryz.func10, Tryz.ntmps10
    go_wp2_with (first
      | (go_at_call 21
         refine (room_any HS.out).mono ?_
         rintro e w1 ⟨rfl, rfl⟩))
    go_ret
    unfold CoPost
    rw [HR.out]
    exact ⟨rfl, Kp.refl _ _, HD.out, HS.out⟩
  have e1 : ((a : Int) == 1099511627776) = false := by rw [beq_eq_false_iff_ne]; omega
  have hw := wrapI (x := (a : Int) + 1) (by unfold I64; omega)
  have HA := hid (show (a : Int) + 1 = ((a + 1 : Nat) : Int) by omega)
  obtain ⟨⟨pd, pb⟩, hp⟩ : ∃ p, andThen (wrs s (2 + (a + 1) % 2 * h) (parts I)) fls = p := ⟨_, rfl⟩
  have HP := hid hp
  have HR := hid (show comR s h (a, has, img) I = (cod (comD s h (a + 1) I).2, (comD s h (a + 1) I).1, pick (comD s h (a + 1) I).2 (a + 1, true, I) (a, has, img)) by
    unfold comR
    rw [if_neg hl, if_neg (by exact h40)])
  have HCD := hid (show comD s h (a + 1) I = if pb then sealD pd (a + 1) true I else (pd, pb) by
    unfold comD
    rw [hp]
    rfl)
  have HC1 := hid (show ∀ w', Kp No w w' → w'.cell? ⟨q, 0, none⟩ = some (.int .i64 (a : Int)) from fun w' k => (k.cell (p := ⟨q, 0, none⟩) hql fun h => h).trans c0)
  have hpk : pd.k.length = s.k.length := by
    have h1 := (wrs_is (parts I) s (2 + (a + 1) % 2 * h)).choose_spec.2.2.1
    unfold andThen at hp
    split at hp
    · unfold fls at hp
      split at hp
      · have := congrArg (fun x => x.1.k.length) hp
        simp only at this
        rw [← this]
        show (wrs s _ (parts I)).1.k.length = _
        rw [h1]
      · have := congrArg (fun x => x.1.k.length) hp
        simp only at this
        rw [← this, flushed_len]
        show (wrs s _ (parts I)).1.k.length = _
        rw [h1]
    · have := congrArg (fun x => x.1.k.length) hp
      simp only at this
      rw [← this, h1]
  clear hp
  have HE1 := hid e1
  go_enter Tryz.func10, Tryz.ntmps10
  go_upto_region 5 with (first
    | (go_at_call 21
       refine (room_any HS.out).mono ?_
       rintro e w1 ⟨rfl, rfl⟩))
  obtain ⟨e0, _⟩ : _ ∧ True := ⟨HC1.out _ ((Kp.refl No w1).alloc (.cells #[.int .i64 0, .bool false, .slice none 0 0] 64)), trivial⟩
  obtain ⟨e0', _⟩ : _ ∧ True := ⟨HC1.out _ ((Kp.refl No w1).drew.alloc (.cells #[.int .i64 0, .bool false, .slice none 0 0] 64)), trivial⟩
  go_cut [5] from 20 to 29 (fun x wx => ∃ (hb : Nat) (A' : Option Addr) (c' : Nat), x = .pointer (some ⟨hb, 0, none⟩) ∧ Hid (Kp No w1 wx ∧ w1.heap.size ≤ hb ∧ Blk wx hb 64 #[.int .i64 ((a + 1 : Nat) : Int), .bool true, .slice A' I.length c'] ∧ Byu wx (fun i => w1.heap.size ≤ i) (.slice A' I.length c') I))
  case first =>
    go_region_with (first
      | (go_at_call 35
         refine (clone_any (HV.out.kp0 (show Kp No w1 _ by first | exact ((Kp.refl No w1).drew.alloc (.cells #[.int .i64 0, .bool false, .slice none 0 0] 64)) | exact ((Kp.refl No w1).alloc (.cells #[.int .i64 0, .bool false, .slice none 0 0] 64)).drew)) (by omega)).mono ?_
         rintro e w3 ⟨u, rfl, o3, k3⟩
         have BN := hid (show Blk w3 w1.heap.size 64 #[.int .i64 0, .bool false, .slice none 0 0] by first | exact (Blk.new w1.drew 64 #[.int .i64 0, .bool false, .slice none 0 0]).kp0 k3 | exact ((Blk.new w1 64 #[.int .i64 0, .bool false, .slice none 0 0]).kp0 (Kp.refl No _).drew).kp0 k3)
         have KN := hid (show Kp No w1 w3 by first | exact ((Kp.refl No w1).drew.alloc _).trans k3 | exact ((Kp.refl No w1).alloc _).drew.trans k3)
         have b0 : w3.cell? ⟨w1.heap.size, 0, none⟩ = some (.int .i64 0) := BN.out.cell 0
         have b1 : w3.cell? ⟨w1.heap.size, 1, none⟩ = some (.bool false) := BN.out.cell 1
         have b2 : w3.cell? ⟨w1.heap.size, 2, none⟩ = some (.slice none 0 0) := BN.out.cell 2
         have f0 := BN.out.frozen 0
         have f1 := BN.out.frozen 1
         have f2 := BN.out.frozen 2
         have y0 := HC1.out _ KN.out
         obtain ⟨A', c', rfl⟩ := o3.form
         have O3 := hid ((o3.byu (Q := fun i => w1.heap.size < i) fun i hi => by simp at hi; omega))
         clear k3 o3)
      | (go_at_call 35
         refine (clone_any (HV.out.kp0 ((Kp.refl No w1).drew)) (by omega)).mono ?_
         rintro e w3 ⟨u, rfl, o3, k3⟩
         have KN := hid (show Kp No w1 w3 from (Kp.refl No w1).drew.trans k3)
         have y0 := HC1.out _ KN.out
         have y1 := HC1.out _ (KN.out.alloc (.cells #[.int .i64 0, .bool false, .slice none 0 0] 64))
         obtain ⟨A', c', rfl⟩ := o3.form
         have O3 := hid ((o3.byu (Q := fun i => w1.heap.size ≤ i) fun i hi => by simp at hi; omega))
         clear k3 o3))
    all_goals
      go_wp2_with fail
      go_meet
      rw [HA.out]
      first
        | exact ⟨_, _, _, rfl, hid ⟨KN.out.alloc _, KN.out.size, Blk.new _ _ _, O3.out.kp0 ((Kp.refl No _).alloc _)⟩⟩
        | exact ⟨_, _, _, rfl, hid ⟨((KN.out.setCell (p := ⟨w1.heap.size, 0, none⟩) (.inr (Nat.le_refl _)) _).setCell (p := ⟨w1.heap.size, 1, none⟩) (.inr (Nat.le_refl _)) _).setCell (p := ⟨w1.heap.size, 2, none⟩) (.inr (Nat.le_refl _)) _, Nat.le_refl _, ((BN.out.put 0 _).put 1 _).put 2 _,
            (O3.out.kp ((((Kp.refl (Only w1.heap.size) _).setCell (p := ⟨w1.heap.size, 0, none⟩) (.inl rfl) _).setCell (p := ⟨w1.heap.size, 1, none⟩) (.inl rfl) _).setCell (p := ⟨w1.heap.size, 2, none⟩) (.inl rfl) _) fun i hi _ e => by unfold Only at e; omega).mono fun i _ hi => Nat.le_of_lt hi⟩⟩
  case rest =>
    obtain ⟨hb, A', c', rfl, HC⟩ := hcut
    obtain ⟨k1, hhb, b1, y1⟩ := HC.out
    have hbl := b1.lt
    have K1 := hid k1
    have B1 := hid b1
    have Y1 := hid (y1.mono (Q' := Stn q g b m) fun i _ hi => ⟨by omega, by omega, by omega, by omega⟩)
    have d0 := b1.cell 0
    have d1 := b1.cell 1
    have d2 := b1.cell 2
    simp only [List.getElem?_toArray, List.getElem?_cons_zero, List.getElem?_cons_succ] at d0 d1 d2
    have hok : Hok h (a + 1, true, I) := ⟨by simp only; omega, by simp only; omega, fun h => by cases h⟩
    have HOk := hid hok
    clear k1 b1 y1 HC e0 e0' hok
    go_upto_region 7 with (first
      | (go_at_call 36
         refine (lay_any (HD.out.kp0 K1.out) (HS.out.kp0 K1.out) hn Y1.out.byt HOk.out).mono ?_
         rintro e w5 ⟨rfl, k5, d5⟩
         rw [HP.out] at d5 ⊢
         have K5 := hid k5
         have D5 := hid d5
         have S5 := hid ((HS.out.kp0 K1.out).kpd k5 fun _ h => h)
         have B5 := hid (B1.out.kp k5 fun e => by rcases e with e | e | e <;> omega)
         have Y5 := hid (Y1.out.kp k5 fun i hi _ e => by rcases e with e | e | e; exact hi.2.1 e; exact hi.2.2.1 e; exact hi.2.2.2 e)
         have T5 := hid ((HT.out.kp0 K1.out).kp k5 fun e => by rcases e with e | e | e; exact htq.1 e; exact htq.2.1 e; exact htq.2.2 e)
         clear k5 d5 d0 d1 d2))
    cases pb with
    | false =>
      have e1 : ((19 : Int) != 0) = true := rfl
      rw [show cod false = 19 from rfl]
      go_wp2
      go_ret
      unfold CoPost
      rw [HR.out, HCD.out]
      exact ⟨rfl, K1.out.all.trans (K5.out.mono fun _ _ h => .inr h), D5.out, S5.out⟩
    | true =>
      have e1 : ((0 : Int) != 0) = false := rfl
      rw [show cod true = 0 from rfl]
      have d0 := B5.out.cell 0
      have d1 := B5.out.cell 1
      have d2 := B5.out.cell 2
      simp only [List.getElem?_toArray, List.getElem?_cons_zero, List.getElem?_cons_succ] at d0 d1 d2
      go_wp2_with (first
        | (go_at_call 37
           refine (turn_any D5.out S5.out T5.out (by omega) Y5.out HOk.out).mono ?_
           rintro e w6 ⟨rfl, k6, d6, s6⟩
           have K6 := hid k6
           have D6 := hid d6
           have S6 := hid s6
           clear k6 d6 s6))
      go_ret
      unfold CoPost
      rw [HR.out, HCD.out]
      exact ⟨rfl, (K1.out.all.trans (K5.out.mono fun _ _ h => .inr h)).trans K6.out, D6.out, S6.out⟩
end
end Go.Proofs.YtgfkbkonelphaaaGreatDoor
