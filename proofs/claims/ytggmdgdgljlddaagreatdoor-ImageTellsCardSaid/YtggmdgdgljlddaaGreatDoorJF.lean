/-
  JE JF: texts laid into one.
-/
import Derived.Test.YtggmdgdgljlddaaGreatDoorJMath
import Derived.Test.YtggmdgdgljlddaaGreatDoorLeE
import Derived.Test.YtggmdgdgljlddaaGreatDoorHeld
import Derived.Test.YtggmdgdgljlddaaGreatDoorZEq
import Derived.Test.YtggmdgdgljlddaaGreatDoorZName

/-
  Contracts of image's takeSmall, takeTicks, takeFlag, takeGroup; two readers beside one another.
-/
namespace Go.Proofs.YtggmdgdgljlddaaGreatDoor
open Go.RowKit

section
variable {w w' : World} {g g1 g2 : Nat} {xs ys : List Int} {e e1 e2 : Int}
/-- Another reader's turning leaves a reader. -/
theorem Rd.other (h : Rd w g2 ys e2) (h1 : Rd w g1 xs e1) (hn : g2 ≠ g1) (k : Kp (Only g1) w w') : Rd w' g2 ys e2 := by
  obtain ⟨v, hb, A, c, rfl, hc, hm, hx, hr⟩ := h
  obtain ⟨v1, hb1, A1, c1, rfl, _⟩ := h1
  refine ⟨_, hb.kp k hn, A, c, rfl, hc, hm, hx, fun h0 => ?_⟩
  obtain ⟨b, o, rfl, hbl, hbg, hcell⟩ := hr h0
  have hne : b ≠ g1 := by
    rintro rfl
    have h2 := hcell 0 h0
    rw [hb1.cell] at h2
    match o, h2 with
    | 0, h2 => simp at h2
    | 1, h2 => simp at h2
    | o + 2, h2 => simp at h2
  exact ⟨b, o, rfl, Nat.lt_of_lt_of_le hbl k.size, hbg, fun j hj => (k.cell (p := ⟨b, o + j, none⟩) hbl hne).trans (hcell j hj)⟩
theorem take_in (h : Rd w g xs 0) {k : Nat} (hk : 1 ≤ k ∧ k ≤ 8) (hl : k ≤ xs.length) :
    Calls Tryz.prog 97 #[.pointer (some ⟨g, 0, none⟩), .int .i64 (k : Int)] w fun r w' => r = .returned (.int .u64 (num (xs.take k))) ∧ Rd w' g (xs.drop k) 0 ∧ Kp (Only g) w w' := by
  refine (take_any g xs 0 (k : Int) w h).mono ?_
  rintro r w' ⟨rfl, h1, h2⟩
  have e0 : hw (k : Int) = k := by
    unfold hw
    split
    · omega
    · split <;> omega
  have e1 : nxP xs 0 (k : Int) = xs.take k := by unfold nxP; rw [if_pos ⟨rfl, by omega, by omega⟩, Int.toNat_natCast]
  have e2 : nxR xs 0 (k : Int) = xs.drop k := by unfold nxR; rw [if_pos ⟨rfl, by omega, by omega⟩, Int.toNat_natCast]
  have e3 : nxE xs 0 (k : Int) = 0 := by unfold nxE; rw [if_pos rfl, if_neg (by omega), if_neg (by omega)]
  rw [e0, e2, e3] at h1
  rw [e0, e1]
  exact ⟨rfl, h1, h2⟩
theorem Rd.bs (h : Rd w g xs e) : Bs xs := by
  obtain ⟨v, _, hv⟩ := h
  exact hv.bytes
/-- Two readers, from a world on in which nothing else has turned. -/
structure RR (w0 w : World) (g1 g2 : Nat) (xs ys : List Int) : Prop where
  kp : Kp (fun i => i = g1 ∨ i = g2) w0 w
  one : Rd w g1 xs 0
  two : Rd w g2 ys 0
  ne : g1 ≠ g2
variable {w0 : World} {zs : List Int}
theorem RR.turn1 (h : RR w0 w g1 g2 xs ys) (r : Rd w' g1 zs 0) (k : Kp (Only g1) w w') : RR w0 w' g1 g2 zs ys := ⟨h.kp.step k fun _ _ e => .inl e, r, h.two.other h.one (Ne.symm h.ne) k, h.ne⟩
theorem RR.turn2 (h : RR w0 w g1 g2 xs ys) (r : Rd w' g2 zs 0) (k : Kp (Only g2) w w') : RR w0 w' g1 g2 xs zs := ⟨h.kp.step k fun _ _ e => .inr e, h.one.other h.two h.ne k, r, h.ne⟩
theorem RR.kp0 (h : RR w0 w g1 g2 xs ys) (k : Kp No w w') : RR w0 w' g1 g2 xs ys := ⟨h.kp.trans k.all, h.one.kp k fun _ _ h => h, h.two.kp k fun _ _ h => h, h.ne⟩
theorem RR.new (a : Rd w g1 xs 0) (b : Rd w g2 ys 0) (hn : g1 ≠ g2) : RR w w g1 g2 xs ys := ⟨Kp.refl _ _, a, b, hn⟩
theorem RR.back (h : RR w0 w g1 g2 xs ys) {wa : World} (k : Kp No wa w0) : RR wa w g1 g2 xs ys := ⟨k.all.trans h.kp, h.one, h.two, h.ne⟩
theorem RR.from0 (h : RR w0 w g1 g2 xs ys) : RR w w g1 g2 xs ys := ⟨Kp.refl _ _, h.one, h.two, h.ne⟩
/-- A block that is neither reader's is turned. -/
theorem RR.set {q i : Nat} {u : Value} (h : RR w0 w g1 g2 xs ys) (hq : w0.heap.size ≤ q) (h1 : g1 < w0.heap.size) (h2 : g2 < w0.heap.size) : RR w0 (w.setCell ⟨q, i, none⟩ u) g1 g2 xs ys := by
  have k := Kp.set1 q i w u
  obtain ⟨v, hb, hv⟩ := h.one
  obtain ⟨v', hb', hv'⟩ := h.two
  exact ⟨h.kp.step k fun i hi e => by have e : i = q := e; omega, h.one.kpg k fun i hi e => by have e : i = q := e; omega, h.two.kpg k fun i hi e => by have e : i = q := e; omega, h.ne⟩
theorem num3 (hb : Bs xs) : IntKind.i64.wrap (num (xs.take 3)) = num (xs.take 3) := by
  have := num_lt hb 3 (by decide)
  rw [pw3] at this
  exact wrapI (by unfold I64; omega)
theorem num6 (hb : Bs xs) : IntKind.i64.wrap (num (xs.take 6)) = num (xs.take 6) := by
  have := num_lt hb 6 (by decide)
  rw [pw6] at this
  exact wrapI (by unfold I64; omega)
theorem num8 (hb : Bs xs) : IntKind.i64.wrap (num (xs.take 8)) = w64 (num (xs.take 8)) := by
  have := num_lt hb 8 (by decide)
  rw [pw8] at this
  unfold w64
  simp only [IntKind.wrap, IntKind.bits, IntKind.signed]
  simp
  split <;> omega
theorem takesmall_any (h : Rd w g xs 0) (hl : 3 ≤ xs.length) : Calls Tryz.prog 102 #[.pointer (some ⟨g, 0, none⟩)] w fun r w' => r = .returned (.int .i64 (num (xs.take 3))) ∧ Rd w' g (xs.drop 3) 0 ∧ Kp (Only g) w w' := by
  have HT := hid (take_in h (k := 3) (by omega) hl)
  have HN := num3 h.bs
  clear h hl
  go_enter Tryz.func102, Tryz.ntmps102
  go_wp2_with (first
    | (go_at_call 97
       refine HT.out.mono ?_
       rintro e w1 ⟨rfl, h1, k1⟩
       have H1 := hid h1
       have K1 := hid k1
       clear h1 k1))
  go_ret
  exact ⟨by rfl, H1.out, K1.out⟩
theorem taketicks_any (h : Rd w g xs 0) (hl : 6 ≤ xs.length) : Calls Tryz.prog 103 #[.pointer (some ⟨g, 0, none⟩)] w fun r w' => r = .returned (.int .i64 (num (xs.take 6))) ∧ Rd w' g (xs.drop 6) 0 ∧ Kp (Only g) w w' := by
  have HT := hid (take_in h (k := 6) (by omega) hl)
  have HN := num6 h.bs
  clear h hl
  go_enter Tryz.func103, Tryz.ntmps103
  go_wp2_with (first
    | (go_at_call 97
       refine HT.out.mono ?_
       rintro e w1 ⟨rfl, h1, k1⟩
       have H1 := hid h1
       have K1 := hid k1
       clear h1 k1))
  go_ret
  exact ⟨by rfl, H1.out, K1.out⟩
theorem takeflag_any (h : Rd w g xs 0) (hl : 1 ≤ xs.length) : Calls Tryz.prog 104 #[.pointer (some ⟨g, 0, none⟩)] w fun r w' => r = .returned (.tuple #[.bool (decide (num (xs.take 1) = 1)), .bool (decide (num (xs.take 1) ≤ 1))]) ∧ Rd w' g (xs.drop 1) 0 ∧ Kp (Only g) w w' := by
  have HT := hid (take_in h (k := 1) (by omega) hl)
  clear h hl
  go_enter Tryz.func104, Tryz.ntmps104
  go_wp2_with (first
    | (go_at_call 97
       refine HT.out.mono ?_
       rintro e w1 ⟨rfl, h1, k1⟩
       have H1 := hid h1
       have K1 := hid k1
       clear h1 k1))
  have hb : (num (xs.take 1) == 1) = decide (num (xs.take 1) = 1) := by by_cases h : num (xs.take 1) = 1 <;> simp [h]
  go_ret2
  exact ⟨by rw [← hb]; rfl, H1.out, K1.out⟩
set_option maxRecDepth 100000 in
set_option maxHeartbeats 1000000 in
theorem takegroup_any (h : RR w w g1 g2 xs ys) (hl : 9 ≤ xs.length) (hl2 : 12 ≤ ys.length) : Calls Tryz.prog 63 #[.pointer (some ⟨g1, 0, none⟩), .pointer (some ⟨g2, 0, none⟩)] w fun r w' =>
    r = .returned (.agg (ge (gOf xs ys)).toArray) ∧ RR w w' g1 g2 (xs.drop 9) (ys.drop 12) := by
  have H0 := hid h
  have L1 := h.one.lt
  have L2 := h.two.lt
  have k1 := (Kp.refl No w).alloc (.cells #[.int .i64 0, .int .i64 0, .int .i64 0, .int .i64 0, .int .i64 0, .int .i64 0] 45)
  have b1 := Blk.new w 45 #[.int .i64 0, .int .i64 0, .int .i64 0, .int .i64 0, .int .i64 0, .int .i64 0]
  obtain ⟨w1, hw1⟩ : ∃ w1, w.alloc (.cells #[.int .i64 0, .int .i64 0, .int .i64 0, .int .i64 0, .int .i64 0, .int .i64 0] 45) = w1 := ⟨_, rfl⟩
  rw [hw1] at k1 b1
  have R0 : RR w1 w1 g1 g2 xs ys := (h.kp0 k1).from0
  have K1 := hid k1
  have B1 := hid b1
  clear h k1 b1
  go_enter Tryz.func63, Tryz.ntmps63
  go_upto_region 1 with fail
  clear hw1
  go_wp2_with (first
    | (go_at_call 102
       with_reducible refine (takesmall_any (RR.one (by assumption)) (by first | omega | (simp only [List.length_drop]; omega))).mono ?_
       rintro e w2 ⟨rfl, r2, k2⟩
       have R2 := RR.turn1 (by assumption) r2 k2
       clear r2 k2)
    | (go_at_call 102
       with_reducible refine (takesmall_any (RR.two (by assumption)) (by first | omega | (simp only [List.length_drop]; omega))).mono ?_
       rintro e w2 ⟨rfl, r2, k2⟩
       have R2 := RR.turn2 (by assumption) r2 k2
       clear r2 k2)
    | (go_at_call 103
       with_reducible refine (taketicks_any (RR.two (by assumption)) (by first | omega | (simp only [List.length_drop]; omega))).mono ?_
       rintro e w3 ⟨rfl, r3, k3⟩
       have R3 := RR.turn2 (by assumption) r3 k3
       have b3 := B1.out.kp R3.kp (by omega)
       have c0 := b3.cell 0
       have c1 := b3.cell 1
       have c2 := b3.cell 2
       have c3 := b3.cell 3
       have c4 := b3.cell 4
       have c5 := b3.cell 5
       have f0 := b3.frozen 0
       have f1 := b3.frozen 1
       have f2 := b3.frozen 2
       have f3 := b3.frozen 3
       have f4 := b3.frozen 4
       have f5 := b3.frozen 5
       simp only [List.getElem?_toArray, List.getElem?_cons_zero, List.getElem?_cons_succ] at c0 c1 c2 c3 c4 c5
       have B3 := hid b3
       have HR3 := hid R3
       clear r3 k3 b3))
  have hb := ((((((B3.out.put 0 (.int .i64 (num (xs.take 3)))).put 1 (.int .i64 (num ((xs.drop 3).take 3)))).put 2 (.int .i64 (num ((xs.drop 6).take 3)))).put 3 (.int .i64 (num (ys.take 3)))).put 4 (.int .i64 (num ((ys.drop 3).take 3)))).put 5 (.int .i64 (num ((ys.drop 6).take 6))))
  simp only [List.setIfInBounds_toArray, List.set_cons_zero, List.set_cons_succ] at hb
  have hr := ((((((HR3.out.back K1.out).set (i := 0) (u := .int .i64 (num (xs.take 3))) (Nat.le_refl w.heap.size) L1 L2).set (i := 1) (u := .int .i64 (num ((xs.drop 3).take 3))) (Nat.le_refl w.heap.size) L1 L2).set (i := 2) (u := .int .i64 (num ((xs.drop 6).take 3))) (Nat.le_refl w.heap.size) L1 L2).set (i := 3) (u := .int .i64 (num (ys.take 3))) (Nat.le_refl w.heap.size) L1 L2).set (i := 4) (u := .int .i64 (num ((ys.drop 3).take 3))) (Nat.le_refl w.heap.size) L1 L2).set (i := 5) (u := .int .i64 (num ((ys.drop 6).take 6))) (Nat.le_refl w.heap.size) L1 L2
  simp only [List.drop_drop] at hr
  have ev : (ge (gOf xs ys)).toArray = #[.int .i64 (num (xs.take 3)), .int .i64 (num ((xs.drop 3).take 3)), .int .i64 (num ((xs.drop 6).take 3)), .int .i64 (num (ys.take 3)), .int .i64 (num ((ys.drop 3).take 3)), .int .i64 (num ((ys.drop 6).take 6))] := by simp [ge, gOf, List.drop_drop]
  rw [ev]
  refine bodyPost_ret (v := .agg #[.int .i64 (num (xs.take 3)), .int .i64 (num ((xs.drop 3).take 3)), .int .i64 (num ((xs.drop 6).take 3)), .int .i64 (num (ys.take 3)), .int .i64 (num ((ys.drop 3).take 3)), .int .i64 (num ((ys.drop 6).take 6))]) ?_ rfl ⟨rfl, hr⟩
  clear hr c0 c1 c2 c3 c4 c5
  generalize ((((((w3.setCell _ _).setCell _ _).setCell _ _).setCell _ _).setCell _ _).setCell _ _) = W at hb ⊢
  have c0 := hb.cell 0
  have c1 := hb.cell 1
  have c2 := hb.cell 2
  have c3 := hb.cell 3
  have c4 := hb.cell 4
  have c5 := hb.cell 5
  simp only [List.getElem?_toArray, List.getElem?_cons_zero, List.getElem?_cons_succ] at c0 c1 c2 c3 c4 c5
  rw [results_cell rfl]
  go_simp
end
end Go.Proofs.YtggmdgdgljlddaaGreatDoor

/-
  Contract of image's takeTask.
-/
namespace Go.Proofs.YtggmdgdgljlddaaGreatDoor
open Go.RowKit

def tz8 : Array Value := #[.int .i64 0, .int .i64 0, .int .i64 0, .int .u64 0, .bool false, .int .i64 0, .int .i64 0, .int .i64 0]
/-- Two readers, and two tasks in blocks of the call's own. -/
structure TK (w0 w : World) (g1 g2 : Nat) (xs ys : List Int) (q p : Nat) (ds cs : Array Value) : Prop where
  rr : RR w0 w g1 g2 xs ys
  bq : Blk w q 53 ds
  bp : Blk w p 53 cs
  l1 : g1 < w0.heap.size
  l2 : g2 < w0.heap.size
  lq : w0.heap.size ≤ q
  lp : q < p
section
variable {w0 w w' : World} {g1 g2 q p : Nat} {xs ys zs : List Int} {ds cs : Array Value}
theorem TK.turn1 (h : TK w0 w g1 g2 xs ys q p ds cs) (r : Rd w' g1 zs 0) (k : Kp (Only g1) w w') : TK w0 w' g1 g2 zs ys q p ds cs :=
  ⟨h.rr.turn1 r k, h.bq.kp k fun e => by have e : q = g1 := e; have := h.lq; have := h.l1; omega, h.bp.kp k fun e => by have e : p = g1 := e; have := h.lq; have := h.l1; have := h.lp; omega, h.l1, h.l2, h.lq, h.lp⟩
theorem TK.putp (h : TK w0 w g1 g2 xs ys q p ds cs) (i : Nat) (u : Value) : TK w0 (w.setCell ⟨p, i, none⟩ u) g1 g2 xs ys q p ds (cs.setIfInBounds i u) :=
  ⟨h.rr.set (by have := h.lq; have := h.lp; omega) h.l1 h.l2, h.bq.kp (Kp.set1 p i w u) fun e => by have e : q = p := e; have := h.lp; omega, h.bp.put i u, h.l1, h.l2, h.lq, h.lp⟩
theorem TK.putq (h : TK w0 w g1 g2 xs ys q p ds cs) (i : Nat) (u : Value) : TK w0 (w.setCell ⟨q, i, none⟩ u) g1 g2 xs ys q p (ds.setIfInBounds i u) cs :=
  ⟨h.rr.set h.lq h.l1 h.l2, h.bq.put i u, h.bp.kp (Kp.set1 q i w u) fun e => by have e : p = q := e; have := h.lp; omega, h.l1, h.l2, h.lq, h.lp⟩
set_option maxRecDepth 100000 in
set_option maxHeartbeats 2000000 in
theorem taketask_any (h : RR w w g1 g2 xs ys) (hl : 27 ≤ xs.length) (hl2 : 8 ≤ ys.length) : Calls Tryz.prog 64 #[.pointer (some ⟨g1, 0, none⟩), .pointer (some ⟨g2, 0, none⟩)] w fun r w' =>
    r = .returned (.tuple #[.agg (te (tOf xs ys)).toArray, .bool (decide (aw xs ≤ 1))]) ∧ RR w w' g1 g2 (xs.drop 27) (ys.drop 8) := by
  have L1 := h.one.lt
  have L2 := h.two.lt
  have hbs := h.one.bs
  have k1 := (Kp.refl No w).alloc (.cells #[.int .i64 0, .int .i64 0, .int .i64 0, .int .u64 0, .bool false, .int .i64 0, .int .i64 0, .int .i64 0] 53)
  have b1 := Blk.new w 53 #[.int .i64 0, .int .i64 0, .int .i64 0, .int .u64 0, .bool false, .int .i64 0, .int .i64 0, .int .i64 0]
  have z1 := World.size_alloc w (.cells #[.int .i64 0, .int .i64 0, .int .i64 0, .int .u64 0, .bool false, .int .i64 0, .int .i64 0, .int .i64 0] 53)
  obtain ⟨w1, hw1⟩ : ∃ w1, w.alloc (.cells #[.int .i64 0, .int .i64 0, .int .i64 0, .int .u64 0, .bool false, .int .i64 0, .int .i64 0, .int .i64 0] 53) = w1 := ⟨_, rfl⟩
  rw [hw1] at k1 b1 z1
  have R0 : RR w1 w1 g1 g2 xs ys := (h.kp0 k1).from0
  have K1 := hid k1
  have Z1 := hid z1
  have B1 := hid b1
  have H8 := hid (fun (W : World) (zs : List Int) (r : Rd W g2 zs 0) (hz : 8 ≤ zs.length) => take_in r (k := 8) (by omega) hz)
  have H81 := hid (fun (W : World) (zs : List Int) (r : Rd W g1 zs 0) (hz : 8 ≤ zs.length) => take_in r (k := 8) (by omega) hz)
  have n8 := num8 (hbs.drop 16)
  clear h k1 b1 z1 hbs
  go_enter Tryz.func64, Tryz.ntmps64
  go_upto_region 1 with fail
  clear hw1
  go_upto_region 2 with (first
    | (go_at_call 102
       with_reducible refine (takesmall_any (RR.one (by assumption)) (by first | omega | (simp only [List.length_drop]; omega))).mono ?_
       rintro e w2 ⟨rfl, r2, k2⟩
       have R2 := RR.turn1 (by assumption) r2 k2
       clear r2 k2)
    | (go_at_call 97
       refine (H8.out _ _ (RR.two (by assumption)) (by first | omega | (simp only [List.length_drop]; omega))).mono ?_
       rintro e w3 ⟨rfl, r3, k3⟩
       have R3 := RR.turn2 (by assumption) r3 k3
       clear r3 k3))
  have b3 := B1.out.kp R3.kp (by omega)
  have r3 : RR w w3 g1 g2 (xs.drop 9) (ys.drop 8) := by simpa [List.drop_drop] using R3.back K1.out
  have hq3 := b3.lt
  have k36 := (Kp.refl No w3).alloc (.cells #[.int .i64 (num (xs.take 3)), .int .i64 (num ((xs.drop 3).take 3)), .int .i64 (num ((xs.drop 6).take 3)), .int .u64 (num (ys.take 8)), .bool false, .int .i64 0, .int .i64 0, .int .i64 0] 53)
  have b6 := Blk.new w3 53 #[.int .i64 (num (xs.take 3)), .int .i64 (num ((xs.drop 3).take 3)), .int .i64 (num ((xs.drop 6).take 3)), .int .u64 (num (ys.take 8)), .bool false, .int .i64 0, .int .i64 0, .int .i64 0]
  obtain ⟨w6, hw6⟩ : ∃ w6, w3.alloc (.cells #[.int .i64 (num (xs.take 3)), .int .i64 (num ((xs.drop 3).take 3)), .int .i64 (num ((xs.drop 6).take 3)), .int .u64 (num (ys.take 8)), .bool false, .int .i64 0, .int .i64 0, .int .i64 0] 53) = w6 := ⟨_, rfl⟩
  rw [hw6] at k36 b6
  try rw [hw6]
  have T6 : TK w w6 g1 g2 (xs.drop 9) (ys.drop 8) w.heap.size w3.heap.size #[.int .i64 0, .int .i64 0, .int .i64 0, .int .u64 0, .bool false, .int .i64 0, .int .i64 0, .int .i64 0] #[.int .i64 (num (xs.take 3)), .int .i64 (num ((xs.drop 3).take 3)), .int .i64 (num ((xs.drop 6).take 3)), .int .u64 (num (ys.take 8)), .bool false, .int .i64 0, .int .i64 0, .int .i64 0] := ⟨r3.kp0 k36, b3.kp0 k36, b6, L1, L2, Nat.le_refl _, hq3⟩
  obtain ⟨p, hp⟩ : ∃ p, w3.heap.size = p := ⟨_, rfl⟩
  rw [hp] at T6 ⊢
  clear hp hw6 b3 r3 k36 b6 hq3 R3 R2 R0 K1 B1 Z1
  go_upto_region 4 with (first
    | (go_at_call 104
       with_reducible refine (takeflag_any T6.rr.one (by simp only [List.length_drop]; omega)).mono ?_
       rintro e w7 ⟨rfl, r7, k7⟩
       have T7 := T6.turn1 r7 k7
       have cp4 := T7.bp.cell 4
       have fp4 := T7.bp.frozen 4
       simp only [List.getElem?_toArray, List.getElem?_cons_zero, List.getElem?_cons_succ] at cp4
       have HT7 := hid T7
       clear r7 k7 T7))
  have T8 := HT7.out.putp 4 (.bool (decide (num ((xs.drop 9).take 1) = 1)))
  simp only [List.setIfInBounds_toArray, List.set_cons_zero, List.set_cons_succ, List.drop_drop, Nat.reduceAdd] at T8
  obtain ⟨w8, hw8⟩ : ∃ w8, w7.setCell ⟨p, 4, none⟩ (.bool (decide (num ((xs.drop 9).take 1) = 1))) = w8 := ⟨_, rfl⟩
  rw [hw8] at T8
  try rw [hw8]
  clear hw8 cp4 fp4 HT7 T6
  go_upto_region 5 with (first
    | (go_at_call 103
       with_reducible refine (taketicks_any T8.rr.one (by simp only [List.length_drop]; omega)).mono ?_
       rintro e w9 ⟨rfl, r9, k9⟩
       have T9 := T8.turn1 r9 k9
       have cp5 := T9.bp.cell 5
       have fp5 := T9.bp.frozen 5
       simp only [List.getElem?_toArray, List.getElem?_cons_zero, List.getElem?_cons_succ] at cp5
       have HT9 := hid T9
       clear r9 k9 T9))
  have T10 := HT9.out.putp 5 (.int .i64 (num ((xs.drop 10).take 6)))
  simp only [List.setIfInBounds_toArray, List.set_cons_zero, List.set_cons_succ, List.drop_drop, Nat.reduceAdd] at T10
  obtain ⟨wa, hwa⟩ : ∃ wa, w9.setCell ⟨p, 5, none⟩ (.int .i64 (num ((xs.drop 10).take 6))) = wa := ⟨_, rfl⟩
  rw [hwa] at T10
  try rw [hwa]
  clear hwa cp5 fp5 HT9 T8
  go_upto_region 6 with (first
    | (go_at_call 97
       refine (H81.out _ _ T10.rr.one (by simp only [List.length_drop]; omega)).mono ?_
       rintro e wb ⟨rfl, rb, kb⟩
       have TB := T10.turn1 rb kb
       simp only [List.drop_drop, Nat.reduceAdd] at TB
       have HTB := hid TB
       clear rb kb TB)
    | (go_at_call 102
       with_reducible refine (takesmall_any HTB.out.rr.one (by simp only [List.length_drop]; omega)).mono ?_
       rintro e wc ⟨rfl, rc, kc⟩
       have TC := HTB.out.turn1 rc kc
       have cp6 := TC.bp.cell 6
       have fp6 := TC.bp.frozen 6
       have cp7 := TC.bp.cell 7
       have fp7 := TC.bp.frozen 7
       simp only [List.getElem?_toArray, List.getElem?_cons_zero, List.getElem?_cons_succ] at cp6 cp7
       have HTC := hid TC
       clear rc kc TC))
  have T12 := (HTC.out.putp 6 (.int .i64 (w64 (num ((xs.drop 16).take 8))))).putp 7 (.int .i64 (num ((xs.drop 24).take 3)))
  simp only [List.setIfInBounds_toArray, List.set_cons_zero, List.set_cons_succ, List.drop_drop, Nat.reduceAdd] at T12
  obtain ⟨wd, hwd⟩ : ∃ wd, (wc.setCell ⟨p, 6, none⟩ (.int .i64 (w64 (num ((xs.drop 16).take 8))))).setCell ⟨p, 7, none⟩ (.int .i64 (num ((xs.drop 24).take 3))) = wd := ⟨_, rfl⟩
  rw [hwd] at T12
  try rw [hwd]
  clear hwd cp6 fp6 cp7 fp7 HTC HTB T10
  have cp0 := T12.bp.cell 0
  have cp1 := T12.bp.cell 1
  have cp2 := T12.bp.cell 2
  have cp3 := T12.bp.cell 3
  have cp4 := T12.bp.cell 4
  have cp5 := T12.bp.cell 5
  have cp6 := T12.bp.cell 6
  have cp7 := T12.bp.cell 7
  simp only [List.getElem?_toArray, List.getElem?_cons_zero, List.getElem?_cons_succ] at cp0 cp1 cp2 cp3 cp4 cp5 cp6 cp7
  have cq0 := T12.bq.cell 0
  have fq0 := T12.bq.frozen 0
  have cq1 := T12.bq.cell 1
  have fq1 := T12.bq.frozen 1
  have cq2 := T12.bq.cell 2
  have fq2 := T12.bq.frozen 2
  have cq3 := T12.bq.cell 3
  have fq3 := T12.bq.frozen 3
  have cq4 := T12.bq.cell 4
  have fq4 := T12.bq.frozen 4
  have cq5 := T12.bq.cell 5
  have fq5 := T12.bq.frozen 5
  have cq6 := T12.bq.cell 6
  have fq6 := T12.bq.frozen 6
  have cq7 := T12.bq.cell 7
  have fq7 := T12.bq.frozen 7
  simp only [List.getElem?_toArray, List.getElem?_cons_zero, List.getElem?_cons_succ] at cq0 cq1 cq2 cq3 cq4 cq5 cq6 cq7
  have HT12 := hid T12
  clear T12
  go_wp2_with fail
  have T13 := (((((((HT12.out.putq 0 (.int .i64 (num (xs.take 3)))).putq 1 (.int .i64 (num ((xs.drop 3).take 3)))).putq 2 (.int .i64 (num ((xs.drop 6).take 3)))).putq 3 (.int .u64 (num (ys.take 8)))).putq 4 (.bool (decide (num ((xs.drop 9).take 1) = 1)))).putq 5 (.int .i64 (num ((xs.drop 10).take 6)))).putq 6 (.int .i64 (w64 (num ((xs.drop 16).take 8))))).putq 7 (.int .i64 (num ((xs.drop 24).take 3)))
  simp only [List.setIfInBounds_toArray, List.set_cons_zero, List.set_cons_succ] at T13
  have ev : (te (tOf xs ys)).toArray = #[.int .i64 (num (xs.take 3)), .int .i64 (num ((xs.drop 3).take 3)), .int .i64 (num ((xs.drop 6).take 3)), .int .u64 (num (ys.take 8)), .bool (decide (num ((xs.drop 9).take 1) = 1)), .int .i64 (num ((xs.drop 10).take 6)), .int .i64 (w64 (num ((xs.drop 16).take 8))), .int .i64 (num ((xs.drop 24).take 3))] := by simp [te, tOf, aw, List.drop_drop]
  have ew : aw xs = num ((xs.drop 9).take 1) := by simp [aw, List.drop_drop]
  rw [ev, ew]
  refine bodyPost_ret (v := .tuple #[.agg #[.int .i64 (num (xs.take 3)), .int .i64 (num ((xs.drop 3).take 3)), .int .i64 (num ((xs.drop 6).take 3)), .int .u64 (num (ys.take 8)), .bool (decide (num ((xs.drop 9).take 1) = 1)), .int .i64 (num ((xs.drop 10).take 6)), .int .i64 (w64 (num ((xs.drop 16).take 8))), .int .i64 (num ((xs.drop 24).take 3))], .bool (decide (num ((xs.drop 9).take 1) ≤ 1))]) ?_ rfl ⟨rfl, T13.rr⟩
  clear cp0 cp1 cp2 cp3 cp4 cp5 cp6 cp7 cq0 cq1 cq2 cq3 cq4 cq5 cq6 cq7
  generalize ((((((((wd.setCell _ _).setCell _ _).setCell _ _).setCell _ _).setCell _ _).setCell _ _).setCell _ _).setCell _ _) = W at T13 ⊢
  have hb := T13.bq
  have c0 := hb.cell 0
  have c1 := hb.cell 1
  have c2 := hb.cell 2
  have c3 := hb.cell 3
  have c4 := hb.cell 4
  have c5 := hb.cell 5
  have c6 := hb.cell 6
  have c7 := hb.cell 7
  simp only [List.getElem?_toArray, List.getElem?_cons_zero, List.getElem?_cons_succ] at c0 c1 c2 c3 c4 c5 c6 c7
  rw [results_cell2 rfl]
  go_simp
end
end Go.Proofs.YtggmdgdgljlddaaGreatDoor
