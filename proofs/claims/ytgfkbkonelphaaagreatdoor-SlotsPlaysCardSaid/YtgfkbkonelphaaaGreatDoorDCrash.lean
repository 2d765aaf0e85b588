/-
  Contract of disk's Crash.
-/
import Derived.Test.YtgfkbkonelphaaaGreatDoorDKeep
import Derived.Test.YtgfkbkonelphaaaGreatDoorDW
import Derived.Test.YtgfkbkonelphaaaGreatDoorArgs
namespace Go.Proofs.YtgfkbkonelphaaaGreatDoor
open Go.RowKit

theorem waitsN_succ (c : Int → Option (List Int)) (n : Nat) : waitsN c (n + 1) = waitsN c n ++ (if (c (n : Int)).isSome then [n] else []) := by
  unfold waitsN
  rw [List.range_succ, List.filter_append]
  congr 1
  cases h : (c (n : Int)).isSome <;> simp [h]
theorem rank_at {c : Int → Option (List Int)} {n i : Nat} (hi : i < n) (hc : (c (i : Int)).isSome = true) : (waitsN c n)[cnt c i]? = some i := by
  induction n with
  | zero => omega
  | succ n ih =>
    rw [waitsN_succ]
    by_cases e : i = n
    · subst e
      rw [cnt_eq, List.getElem?_append_right (Nat.le_refl _), if_pos hc]
      simp
    · have := ih (by omega)
      rw [List.getElem?_append_left (List.getElem?_eq_some_iff.1 this).1]
      exact this
theorem at_rank {c : Int → Option (List Int)} {n k i : Nat} (h : (waitsN c n)[k]? = some i) : i < n ∧ (c (i : Int)).isSome = true ∧ cnt c i = k := by
  have hm := mem_waitsN.1 (List.mem_of_getElem? h)
  refine ⟨hm.1, hm.2, ?_⟩
  have h2 := rank_at hm.1 hm.2
  have hnd : (waitsN c n).Nodup := (waitsN_srt c n).imp fun h => Nat.ne_of_lt h
  exact (List.getElem?_inj (List.getElem?_eq_some_iff.1 h2).1 hnd).1 (h2.trans h.symm)

/-- What waits still when so many ranks were gone through. -/
def dropAt (s : Ds) (keep : List Bool) (k : Nat) (x : Int) : Option (List Int) := if cnt s.c x.toNat < k ∧ keep.getD (cnt s.c x.toNat) false = false then none else s.c x
def dropS (s : Ds) (keep : List Bool) (k : Nat) : Ds := { s with c := dropAt s keep k }
def crashed (s : Ds) (keep : List Bool) : Ds := { flushed (dropS s keep (waits s).length) with armed := false }
theorem dropS_zero (s : Ds) (keep : List Bool) : dropS s keep 0 = s := by
  have : dropAt s keep 0 = s.c := by
    funext x
    unfold dropAt
    rw [if_neg (by omega)]
  unfold dropS
  rw [this]
theorem dropAt_key {s : Ds} {keep : List Bool} {k : Nat} {x : Int} {l : List Int} (hx : dropAt s keep k x = some l) : s.c x = some l := by
  unfold dropAt at hx
  split at hx
  · cases hx
  · exact hx
theorem dropS_ok {s : Ds} (h : DOk s) (keep : List Bool) (k : Nat) : DOk (dropS s keep k) := ⟨h.len, h.sec, fun i l hl => h.key i l (dropAt_key hl), h.l0, h.l1⟩
theorem crash_ok {s : Ds} (h : DOk s) (keep : List Bool) : DOk (crashed s keep) := by
  have := kept_ok (dropS_ok h keep (waits s).length)
  exact ⟨this.len, this.sec, this.key, this.l0, this.l1⟩
theorem waits_at {s : Ds} {k : Nat} (hk : k < (waits s).length) : ∃ i : Nat, (waits s).getD k 0 = (i : Int) ∧ i < s.k.length ∧ (s.c (i : Int)).isSome = true ∧ cnt s.c i = k := by
  unfold waits at hk ⊢
  rw [List.length_map] at hk
  have h := List.getElem?_eq_getElem hk
  obtain ⟨h1, h2, h3⟩ := at_rank h
  exact ⟨_, by simp [List.getD, hk], h1, h2, h3⟩
theorem dropAt_drop {s : Ds} (hok : DOk s) {keep : List Bool} {k i : Nat} (hc : (s.c (i : Int)).isSome = true) (hr : cnt s.c i = k) (hb : keep.getD k false = false) : dropAt s keep (k + 1) = fun x => if x = (i : Int) then none else dropAt s keep k x := by
  funext x
  unfold dropAt
  by_cases e : x = (i : Int)
  · subst e
    rw [if_pos rfl, Int.toNat_natCast, hr, if_pos ⟨by omega, hb⟩]
  · rw [if_neg e]
    by_cases hx : (s.c x).isSome = true
    · have hne : cnt s.c x.toNat ≠ k := fun h => by
        obtain ⟨l, hl⟩ := Option.isSome_iff_exists.1 hx
        obtain ⟨x0, x1, _⟩ := hok.key x l hl
        have e1 : ((x.toNat : Nat) : Int) = x := by omega
        have r1 := rank_at (c := s.c) (n := max i x.toNat + 1) (i := x.toNat) (by omega) (by rw [e1]; exact hx)
        have r2 := rank_at (c := s.c) (n := max i x.toNat + 1) (i := i) (by omega) hc
        rw [h, ← hr, r2] at r1
        have := Option.some.inj r1
        omega
      have : (cnt s.c x.toNat < k + 1 ∧ keep.getD (cnt s.c x.toNat) false = false) ↔ (cnt s.c x.toNat < k ∧ keep.getD (cnt s.c x.toNat) false = false) := ⟨fun h => ⟨by omega, h.2⟩, fun h => ⟨by omega, h.2⟩⟩
      simp only [this]
    · have : s.c x = none := by cases h : s.c x <;> simp_all
      rw [this]
      split <;> split <;> rfl
theorem dropAt_keep {s : Ds} {keep : List Bool} {k : Nat} (hb : keep.getD k false = true) : dropAt s keep (k + 1) = dropAt s keep k := by
  funext x
  unfold dropAt
  have : (cnt s.c x.toNat < k + 1 ∧ keep.getD (cnt s.c x.toNat) false = false) ↔ (cnt s.c x.toNat < k ∧ keep.getD (cnt s.c x.toNat) false = false) := by
    constructor
    · rintro ⟨h1, h2⟩
      refine ⟨?_, h2⟩
      rcases Nat.lt_or_ge (cnt s.c x.toNat) k with h | h
      · exact h
      · have : cnt s.c x.toNat = k := by omega
        rw [this, hb] at h2
        cases h2
    · exact fun h => ⟨by omega, h.2⟩
  simp only [this]
theorem dropAt_still {s : Ds} {keep : List Bool} {k i : Nat} (hr : cnt s.c i = k) : dropAt s keep k (i : Int) = s.c (i : Int) := by
  unfold dropAt
  rw [if_neg]
  rw [Int.toNat_natCast, hr]
  omega
theorem cnt_del {c : Int → Option (List Int)} {i n : Nat} (hi : i < n) (hc : (c (i : Int)).isSome = true) : cnt (fun k => if k = (i : Int) then none else c k) n = cnt c n - 1 ∧ 0 < cnt c n := by
  induction n with
  | zero => omega
  | succ n ih =>
    unfold cnt
    by_cases h : i = n
    · subst h
      rw [cnt_same (c := c) fun j hj => if_neg (show ¬ ((j : Int) = (i : Int)) by omega), if_pos rfl, hc]
      simp
    · obtain ⟨h1, h2⟩ := ih (by omega)
      rw [h1, if_neg (show ¬ ((n : Int) = (i : Int)) by omega)]
      split <;> omega
theorem Ow.sl {w : World} {base : Nat} {e : TypeId} {v : Value} {xs : List Int} (h : Ow w base e 1 zf v xs) : Sl (Value.int .i64) 0 w (fun i => base ≤ i) v xs := by
  rcases h.2 with ⟨rfl, h0⟩ | ⟨g, cap, cur, rfl, hb, hg, hl, hm, hs, ht⟩
  · have : xs = [] := List.eq_nil_of_length_eq_zero h0
    subst this
    exact Sl.nil _ _ _ _
  · refine ⟨some ⟨g, 0, none⟩, cap, rfl, hl, hm, fun _ => ⟨g, 0, rfl, (Array.getElem?_eq_some_iff.1 hg).1, hb, fun j hj => ?_⟩⟩
    have := World.ownsRow.cellAt h j (by omega)
    rw [Nat.zero_add, this]
    have := flat_at (n := 1) (f := zf) (d := 0) xs hj (Nat.lt_succ_self 0)
    rw [show j * 1 + 0 = j by omega] at this
    exact this

section
variable {w w' : World} {g b m : Nat} {s : Ds}
set_option maxHeartbeats 1000000 in
set_option maxRecDepth 100000 in
theorem crash_any (h : Dk w g b m s) {kv : Value} {P : Nat → Prop} {keep : List Bool} (hkv : Sl Value.bool false w P kv keep) (hPm : ¬ P m) : Calls Tryz.prog 16 #[.pointer (some ⟨g, 0, none⟩), kv] w fun e w' => (∃ v, e = .returned v) ∧ Kp (DB g b m) w w' ∧ Dk w' g b m (crashed s keep) := by
  obtain ⟨A, c, rfl, hc, hm, hr⟩ := hkv
  unfold maxLen at hm
  have hA := h.lts
  have hlen := h.ok.len
  have hwl := waits_len s
  have O := hid h
  clear h
  obtain ⟨n, hn⟩ : ∃ n, keep.length = n := ⟨_, rfl⟩
  have HN := hid hn
  have HR := hid hr
  rw [hn] at hc ⊢
  clear hn hr
  go_enter Tryz.func16, Tryz.ntmps16
  go_wp2_with fail
  refine (waits_any O.out).mono ?_
  rintro e w1 ⟨v, rfl, ow, k1⟩
  obtain ⟨A', c', rfl, hc', hm', hr'⟩ := ow.sl
  unfold maxLen at hm'
  have HW := hid hr'
  obtain ⟨q, hq⟩ : ∃ q, (waits s).length = q := ⟨_, rfl⟩
  have HQ := hid hq
  rw [hq] at hwl hc' ⊢
  have D1 := hid (O.out.kp0 k1)
  have K1 := hid k1
  clear hr' hq ow k1
  go_wp2
  go_loopw [9] (fun i wr => ∃ k : Nat, k ≤ q ∧ i = .int .i64 (k : Int) ∧ Hid (Dk wr g b m (dropS s keep k)) ∧ Hid (Kp (Only m) w1 wr)) (fun i _ => q - (intOf i).toNat)
  case atStart => exact ⟨0, Nat.zero_le _, rfl, hid (by rw [dropS_zero]; exact D1.out), hid (Kp.refl _ w1)⟩
  case round =>
    obtain ⟨k, hk, rfl, DK, KK⟩ := hrel
    by_cases hkq : k < q
    · obtain ⟨i, hi, hin, hci, hri⟩ := waits_at (s := s) (k := k) (by rw [HQ.out]; exact hkq)
      obtain ⟨b', o', rfl, hb', hbase, hcell⟩ := HW.out (by rw [HQ.out]; omega)
      have hcw := (KK.out.cell (p := ⟨b', o' + k, none⟩) hb' (fun e => by have : b' = m := e; omega)).trans (hcell k (by rw [HQ.out]; exact hkq))
      rw [hi] at hcw
      have HCI := hid hci
      have HRI := hid hri
      have c1 := DK.out.hd.cell 1
      simp at c1
      have hsum := wrapI (x := (k : Int) + 1) (by unfold I64; omega)
      clear hcell hi hci hri
      have del : keep.getD k false = false → ∃ w2, (Builtin.delete_ #[60, 3] 0 #[.map (some m), .int .i64 (i : Int)]).run Tryz.prog wr = .ok (.tuple #[]) w2 ∧ Dk w2 g b m (dropS s keep (k + 1)) ∧ Kp (Only m) wr w2 := fun hb => by
        obtain ⟨w2, hrun, m2, k2⟩ := DK.out.mp.del dK (x := (i : Int)) (by unfold I64; omega) 0
        refine ⟨w2, hrun, ⟨DK.out.hd.kp k2 (fun e => O.out.gm e), DK.out.kt.kp k2 (fun e => O.out.bm e), ?_, O.out.gb, O.out.gm, O.out.bm, dropS_ok O.out.ok _ _⟩, k2⟩
        have e1 : (dropS s keep k).c (i : Int) = s.c (i : Int) := dropAt_still HRI.out
        rw [e1, HCI.out, if_pos rfl] at m2
        have e2 : (dropS s keep (k + 1)).c = fun x => if x = (i : Int) then none else (dropS s keep k).c x := dropAt_drop O.out.ok HCI.out HRI.out hb
        rw [e2, show (dropS s keep (k + 1)).k.length = s.k.length from rfl, (cnt_del hin (by rw [e1]; exact HCI.out)).1]
        exact m2
      have fin : ∀ w2, Dk w2 g b m (dropS s keep (k + 1)) → Kp (Only m) wr w2 → ∃ k' : Nat, k' ≤ q ∧ Value.int .i64 ((k : Int) + 1) = .int .i64 (k' : Int) ∧ Hid (Dk w2 g b m (dropS s keep k')) ∧ Hid (Kp (Only m) w1 w2) := fun w2 d k2 => ⟨k + 1, by omega, by go_num, hid d, hid (KK.out.trans k2)⟩
      have FIN := hid fin
      clear fin
      by_cases hlt : k < n
      · obtain ⟨kb, ko, rfl, hkb, hPk, hkc⟩ := HR.out (by rw [HN.out]; omega)
        have hkcell := (KK.out.cell (p := ⟨kb, ko + k, none⟩) (by have := K1.out.size; show kb < w1.heap.size; omega) (fun e => hPm (by have : kb = m := e; rwa [this] at hPk))).trans ((K1.out.cell (p := ⟨kb, ko + k, none⟩) hkb (fun h => h)).trans (hkc k (by rw [HN.out]; exact hlt)))
        clear hkc
        cases hb : keep.getD k false with
        | false =>
          obtain ⟨w2, hrun, D2, k2⟩ := del hb
          rw [hb] at hkcell
          have D2 := hid D2
          have k2 := hid k2
          clear del hb
          go_wp2
          go_roundw
          case rel => exact FIN.out _ D2.out k2.out
          case measure => simp [intOf]; omega
        | true =>
          rw [hb] at hkcell
          have D2 := hid (show Dk wr g b m (dropS s keep (k + 1)) by unfold dropS; rw [dropAt_keep hb]; exact DK.out)
          clear del hb
          go_wp2
          go_roundw
          case rel => exact FIN.out _ D2.out (Kp.refl _ _)
          case measure => simp [intOf]; omega
      · have hb : keep.getD k false = false := by
          rw [List.getD_eq_getElem?_getD, List.getElem?_eq_none (by rw [HN.out]; omega)]
          rfl
        obtain ⟨w2, hrun, D2, k2⟩ := del hb
        have D2 := hid D2
        have k2 := hid k2
        clear del hb
        go_wp2
        go_roundw
        case rel => exact FIN.out _ D2.out k2.out
        case measure => simp [intOf]; omega
    · obtain rfl : k = q := by omega
      go_wp2_with fail
      refine (keepAll_any DK.out).mono ?_
      rintro e w2 ⟨⟨v, rfl⟩, k2, D2⟩
      have f2 := D2.hd.frozen 2
      have c2 := D2.hd.cell 2
      simp at c2
      have D2 := hid D2
      have k2 := hid k2
      go_wp2
      have k3 := Kp.set1 g 2 w2 (.bool false)
      have he : crashed s keep = { flushed (dropS s keep k) with armed := false } := by unfold crashed; rw [HQ.out]
      have hok := crash_ok O.out.ok keep
      rw [he] at hok ⊢
      refine bodyPost_end (results_none rfl _ _ _) rfl ⟨⟨_, rfl⟩, ?_, ?_, D2.out.kt.kp k3 (fun e => O.out.gb (Eq.symm e)), D2.out.mp.kp k3 (fun e => O.out.gm (Eq.symm e)), O.out.gb, O.out.gm, O.out.bm, hok⟩
      · exact ((K1.out.all.trans (KK.out.mono fun i _ e => .inr (.inr e))).trans (k2.out.mono fun i _ e => e.elim (fun e => .inr (.inl e)) fun e => .inr (.inr e))).trans (k3.mono fun i _ e => .inl e)
      · have := D2.out.hd.put 2 (.bool false)
        simpa using this
end
end Go.Proofs.YtgfkbkonelphaaaGreatDoor
