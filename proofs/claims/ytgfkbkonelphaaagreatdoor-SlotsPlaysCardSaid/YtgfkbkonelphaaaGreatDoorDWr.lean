/-
  Contract of disk's Write.
-/
import Derived.Test.YtgfkbkonelphaaaGreatDoorDArr
import Derived.Test.YtgfkbkonelphaaaGreatDoorBytes
import Derived.Laws.CopyOwn
import Derived.Test.YtgfkbkonelphaaaGreatDoorStill
namespace Go.Proofs.YtgfkbkonelphaaaGreatDoor
open Go.RowKit

/-- A sector of these bytes, with bytes 0 behind them. -/
def pad (xs : List Int) : List Int := xs ++ List.replicate (64 - xs.length) 0
theorem pad_len {xs : List Int} (h : xs.length ≤ 64) : (pad xs).length = 64 := by unfold pad; simp; omega
theorem pad_sec {xs : List Int} (h : xs.length ≤ 64) (hr : ∀ x ∈ xs, 0 ≤ x ∧ x ≤ 255) : Sec (pad xs) :=
  ⟨pad_len h, fun x hx => by
    rcases List.mem_append.1 hx with hx | hx
    · exact hr x hx
    · rw [List.eq_of_mem_replicate hx]; omega⟩
theorem sc_pad (xs : List Int) : splice (sc zs) 0 (sc xs) = sc (pad xs) := by
  unfold splice sc pad zs
  rw [List.take_zero, List.nil_append, List.map_append, List.length_map, Nat.zero_add, ← List.map_drop, List.drop_replicate]

section
variable {ops : Array Oper} {rest : List Oper} {o : Oper} {a : Act} {w w' : World} {Q : Exit → Act → World → Prop} {g b m : Nat} {s : Ds}
theorem wp_copy57 (hg : o.guard = none) (d x : Operand) (ho : o.op = .call { callee := .builtin .copy, args := #[d, x], argTypes := #[36, 36] }) {q : Nat} {P : Nat → Prop} {xs : List Int} (hd : a.eval d = .slice (some ⟨q, 0, none⟩) 64 64) (hx : Byt w P (a.eval x) xs) (hl : xs.length ≤ 64)
    (hb : Blk w q 85 (sc zs).toArray)
    (h : ∀ w', Blk w' q 85 (sc (pad xs)).toArray → Kp (fun k => q ≤ k) w w' → wpList Tryz.prog ops Q rest (a.put o.dst (goInt xs.length)) w') : wpList Tryz.prog ops Q (o :: rest) a w := by
  obtain ⟨A, c, he, hc, hm, hys, hr⟩ := hx
  refine wpList_copy_splice hg d x _ _ ho 5 (by kernel_rfl) (by kernel_rfl) _ A _ _ _ c hd he q 0 (sc zs) 85 hb (sc xs) (by rw [sc_len]; exact (Nat.min_eq_left hl).symm) ?_ ?_ (sc_one xs) q w (Below.refl _ _) (Nat.le_refl _) ?_
  · intro hp
    rw [sc_len] at hp
    obtain ⟨b, o', rfl, _, _, hcell⟩ := hr hp
    refine ⟨rfl, _, rfl, fun j u hu => ?_⟩
    have hj : j < xs.length := by rw [← sc_len]; exact (List.getElem?_eq_some_iff.1 hu).1
    have ha : (⟨b, o', none⟩ : Addr).add j = ⟨b, o' + j, none⟩ := by unfold Addr.add; split <;> simp_all
    rw [ha, hcell j hj, ← hu, sc_at hj]
  · rw [sc_len, sc_len, Sec.zs.len]
    omega
  · intro w' hg' hbl
    rw [sc_len]
    refine h w' ?_ ⟨hbl.os, hbl.tape, hbl.output, hbl.size, fun k _ hk => hbl.block k (by omega)⟩
    rw [← sc_pad]
    exact hg'.out

/-- Behind a write. -/
def wrote (s : Ds) (i : Int) (xs : List Int) : Ds := { calld s with c := fun k => if k = i then some (pad xs) else s.c k }

theorem write_off (h : Dk w g b m s) (ho : off s = true) (i : Int) (v : Value) : Calls Tryz.prog 57 #[.pointer (some ⟨g, 0, none⟩), .int .i64 i, v] w fun e w' => e = .returned (.int .i64 19) ∧ Kp (Only g) w w' ∧ Dk w' g b m (calld s) := by
  go_enter Tryz.func57, Tryz.ntmps57
  go_wp2_with fail
  refine (call_any h).mono ?_
  rintro e w1 ⟨rfl, k1, D1, z1⟩
  rw [ho]
  go_wp2
  go_ret
  exact ⟨rfl, k1, D1⟩
theorem write_no (h : Dk w g b m s) (ho : off s = false) {i : Int} (hi : has s i = false) (v : Value) : Calls Tryz.prog 57 #[.pointer (some ⟨g, 0, none⟩), .int .i64 i, v] w fun e w' => e = .returned (.int .i64 6) ∧ Kp (Only g) w w' ∧ Dk w' g b m (calld s) := by
  go_enter Tryz.func57, Tryz.ntmps57
  go_wp2_with fail
  refine (call_any h).mono ?_
  rintro e w1 ⟨rfl, k1, D1, z1⟩
  rw [ho]
  go_wp2_with fail
  refine (has_any D1 i).mono ?_
  rintro e w1 ⟨rfl, rfl⟩
  rw [show has (calld s) i = false from hi]
  go_wp2
  go_ret
  exact ⟨rfl, k1, D1⟩
theorem write_long (h : Dk w g b m s) (ho : off s = false) {i : Int} (hi : has s i = true) {v : Value} {P : Nat → Prop} {xs : List Int} (hv : Byt w P v xs) (hl : 64 < xs.length) : Calls Tryz.prog 57 #[.pointer (some ⟨g, 0, none⟩), .int .i64 i, v] w fun e w' => e = .returned (.int .i64 22) ∧ Kp (Only g) w w' ∧ Dk w' g b m (calld s) := by
  obtain ⟨A, c, rfl, hc, hm, _⟩ := hv
  unfold maxLen at hm
  generalize xs.length = n at *
  go_enter Tryz.func57, Tryz.ntmps57
  go_wp2_with fail
  refine (call_any h).mono ?_
  rintro e w1 ⟨rfl, k1, D1, z1⟩
  rw [ho]
  go_wp2_with fail
  refine (has_any D1 i).mono ?_
  rintro e w1 ⟨rfl, rfl⟩
  rw [show has (calld s) i = true from hi]
  go_wp2
  go_ret
  exact ⟨rfl, k1, D1⟩

theorem cnt_same {c d : Int → Option (List Int)} {n : Nat} (h : ∀ j : Nat, j < n → d (j : Int) = c (j : Int)) : cnt d n = cnt c n := by
  induction n with
  | zero => rfl
  | succ n ih =>
    unfold cnt
    rw [ih fun j hj => h j (by omega), h n (by omega)]
theorem cnt_put {c : Int → Option (List Int)} {i n : Nat} (hi : i < n) (l : List Int) : cnt (fun k => if k = (i : Int) then some l else c k) n = if (c (i : Int)).isSome then cnt c n else cnt c n + 1 := by
  induction n with
  | zero => omega
  | succ n ih =>
    unfold cnt
    by_cases h : i = n
    · subst h
      rw [cnt_same (c := c) fun j hj => if_neg (show ¬ ((j : Int) = (i : Int)) by omega)]
      rw [if_pos rfl]
      cases (c (i : Int)).isSome <;> simp
    · rw [ih (by omega)]
      rw [if_neg (show ¬ ((n : Int) = (i : Int)) by omega)]
      split <;> split <;> omega
theorem has_nat {i : Int} (hi : has s i = true) : ∃ j : Nat, i = (j : Int) ∧ j < s.k.length := by
  unfold has at hi
  simp at hi
  exact ⟨i.toNat, by omega, by omega⟩

set_option maxHeartbeats 1000000 in
set_option maxRecDepth 100000 in
theorem write_is (h : Dk w g b m s) (ho : off s = false) {i : Nat} (hi : i < s.k.length) {v : Value} {P : Nat → Prop} {xs : List Int} (hv : Byt w P v xs) (hP : ¬ P g) (hl : xs.length ≤ 64) : Calls Tryz.prog 57 #[.pointer (some ⟨g, 0, none⟩), .int .i64 (i : Int), v] w fun e w' => e = .returned (.int .i64 0) ∧ Kp (fun k => k = g ∨ k = m) w w' ∧ Dk w' g b m (wrote s i xs) := by
  have hh : has s (i : Int) = true := by unfold has; simp [hi]
  have hxs := hv.bytes
  obtain ⟨A, c, rfl, hc, hm⟩ : ∃ A c, v = .slice A xs.length c ∧ xs.length ≤ c ∧ c ≤ maxLen := by
    obtain ⟨A, c, rfl, hc, hm, _⟩ := hv
    exact ⟨A, c, rfl, hc, hm⟩
  unfold maxLen at hm
  have HB := hid hv
  obtain ⟨n, hn⟩ : ∃ n, xs.length = n := ⟨_, rfl⟩
  have HN := hid hn
  rw [hn] at hl hc ⊢
  clear hv hn
  have hA := h.lts
  have hlen := h.ok.len
  have O := hid h
  clear h
  go_enter Tryz.func57, Tryz.ntmps57
  go_wp2_with fail
  refine (call_any O.out).mono ?_
  rintro e w1 ⟨rfl, k1, D1, z1⟩
  rw [ho]
  go_wp2_with fail
  refine (has_any D1 _).mono ?_
  rintro e w1 ⟨rfl, rfl⟩
  rw [show has (calld s) i = true from hh]
  have HB1 := hid (HB.out.kp k1 fun j hj e => hP (by have : j = g := e; rwa [this] at hj))
  go_wp2_with (first
    | (refine wp_new57 rfl rfl ?_; intro w2 b2 k2 z2; rw [z1] at b2 z2; have HB2 := hid (by have := HB1.out.kp k2 (fun _ _ h => h); rw [HN.out] at this; exact this))
    | (refine wp_copy57 (xs := xs) rfl _ _ rfl rfl HB2.out (by rw [HN.out]; exact hl) b2 ?_; intro w3 b3 k3))
  have z3 := k3.size
  have h3 := (((k1.mono (T := fun k => k = g ∨ k = m) fun k _ e => .inl e).trans k2.all).step k3 fun i hi e => by omega)
  have D3 := (D1.kp0 k2).kp k3 (by omega) (by omega) (by omega)
  have c1 := D3.hd.cell 1
  simp at c1
  have HD := hid D3
  have K3 := hid h3
  obtain ⟨w4, hrun, m4, k4⟩ := (D3.mp.kp0 ((Kp.refl No w3).drew)).put dK (x := (i : Int)) (pad xs) (by unfold I64; omega) (by have := cnt_le (calld s).c (calld s).k.length; have : (calld s).k.length = s.k.length := rfl; unfold maxLen; omega)
  have hpl := hid (pad_len (xs := xs) (by rw [HN.out]; exact hl))
  have hps := hid (pad_sec (xs := xs) (by rw [HN.out]; exact hl) hxs)
  clear D1 D3 h3 k1 k2 k3 b2 hxs
  refine region_tail 6 (by kernel_rfl) (by kernel_rfl) ?_
  simp only [List.take_succ_cons, List.take_zero, List.drop_succ_cons, List.drop_zero, Act.put, goInt, List.setIfInBounds_toArray, List.set_cons_succ, List.set_cons_zero]
  repeat (first | refine still_get57 rfl _ rfl rfl b3 hpl.out ?_ | still_step)
  refine wpStill_nil ?_
  go_wp2
  go_ret
  refine ⟨rfl, (K3.out.drew.step k4 fun j _ e => .inr e), HD.out.hd.kp (S := Only m) ((Kp.refl (Only m) w3).drew.trans k4) (fun e => O.out.gm e), HD.out.kt.kp (S := Only m) ((Kp.refl (Only m) w3).drew.trans k4) (fun e => O.out.bm e), ?_, O.out.gb, O.out.gm, O.out.bm, ?_⟩
  · show Mk _ _ _ _ w4 m (fun k => if k = (i : Int) then some (pad xs) else s.c k) (cnt (fun k => if k = (i : Int) then some (pad xs) else s.c k) s.k.length)
    rw [cnt_put hi]
    exact m4
  · refine ⟨O.out.ok.len, O.out.ok.sec, fun k l hk => ?_, HD.out.ok.l0, HD.out.ok.l1⟩
    have hk : (if k = (i : Int) then some (pad xs) else s.c k) = some l := hk
    by_cases e : k = (i : Int)
    · rw [if_pos e] at hk
      cases hk
      exact ⟨by omega, by show k < (s.k.length : Int); omega, hps.out⟩
    · rw [if_neg e] at hk
      exact O.out.ok.key k l hk
end
end Go.Proofs.YtgfkbkonelphaaaGreatDoor
