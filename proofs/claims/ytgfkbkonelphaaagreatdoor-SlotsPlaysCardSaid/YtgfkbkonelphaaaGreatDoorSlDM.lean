/-
  Rot, Kept; slices of sectors; comparisons.
-/
import Derived.Test.YtgfkbkonelphaaaGreatDoorDWr
import Derived.Laws.BitsAllLaws
import Derived.Test.YtgfkbkonelphaaaGreatDoorDArr
import Derived.Test.YtgfkbkonelphaaaGreatDoorBytes
import Derived.LoopTactic
import Derived.Test.YtgfkbkonelphaaaGreatDoorArgs
import Derived.Laws.BytesArg

/-
  Contract of disk's Rot.
-/
namespace Go.Proofs.YtgfkbkonelphaaaGreatDoor
open Go.RowKit

/-- A bit of a byte turned over. -/
def flip (r : Nat) (x : Int) : Int := bits .xor .u8 x (IntKind.u8.wrap (2 ^ r))
theorem flip_nat {r x : Nat} (hr : r < 8) (hx : x < 256) : flip r (x : Int) = ((x ^^^ 2 ^ r : Nat) : Int) := by
  have hm8 : 2 ^ r < 2 ^ 8 := Nat.pow_lt_pow_right (by decide) hr
  have hw : IntKind.u8.wrap ((2 : Int) ^ r) = ((2 ^ r : Nat) : Int) := by
    rw [show ((2 : Int) ^ r) = ((2 ^ r : Nat) : Int) by rw [Int.natCast_pow]; rfl]
    clear hx
    generalize 2 ^ r = n at hm8
    simp only [IntKind.wrap, IntKind.bits, IntKind.signed]
    simp
    omega
  unfold flip
  rw [hw, u8_xor_nat x (2 ^ r) hx hm8]
theorem flip_rg {r : Nat} {x : Int} (hr : r < 8) (h0 : 0 ≤ x) (h1 : x ≤ 255) : 0 ≤ flip r x ∧ flip r x ≤ 255 := by
  obtain ⟨n, rfl⟩ : ∃ n : Nat, x = (n : Int) := ⟨x.toNat, by omega⟩
  rw [flip_nat hr (by omega)]
  have : n ^^^ 2 ^ r < 2 ^ 8 := Nat.xor_lt_two_pow (by omega) (Nat.pow_lt_pow_right (by decide) hr)
  omega
theorem flip_twice {r : Nat} {x : Int} (hr : r < 8) (h0 : 0 ≤ x) (h1 : x ≤ 255) : flip r (flip r x) = x := by
  obtain ⟨n, rfl⟩ : ∃ n : Nat, x = (n : Int) := ⟨x.toNat, by omega⟩
  have hl : n ^^^ 2 ^ r < 2 ^ 8 := Nat.xor_lt_two_pow (by omega) (Nat.pow_lt_pow_right (by decide) hr)
  rw [flip_nat hr (by omega), flip_nat hr (by omega), Nat.xor_assoc, Nat.xor_self, Nat.xor_zero]
theorem flip_ne {r : Nat} {x : Int} (hr : r < 8) (h0 : 0 ≤ x) (h1 : x ≤ 255) : flip r x ≠ x := by
  obtain ⟨n, rfl⟩ : ∃ n : Nat, x = (n : Int) := ⟨x.toNat, by omega⟩
  rw [flip_nat hr (by omega)]
  intro e
  have e : n ^^^ 2 ^ r = n := by omega
  have h2 : n ^^^ (n ^^^ 2 ^ r) = 2 ^ r := by rw [← Nat.xor_assoc, Nat.xor_self, Nat.zero_xor]
  rw [e, Nat.xor_self] at h2
  have := Nat.pow_pos (n := r) (show 0 < 2 by decide)
  omega

def rotL (l : List Int) (t : Nat) : List Int := l.set (t / 8) (flip (t % 8) (l.getD (t / 8) 0))
def rotted (s : Ds) (i t : Nat) : Ds := { s with k := s.k.set i (rotL (s.k.getD i []) t) }
theorem rotL_sec {l : List Int} (h : Sec l) (t : Nat) : Sec (rotL l t) := by
  refine ⟨by unfold rotL; rw [List.length_set]; exact h.len, fun x hx => ?_⟩
  rcases Nat.lt_or_ge (t / 8) l.length with hl | hl
  · have hb := h.rg (l.getD (t / 8) 0) (by simp [List.getD, hl])
    rcases List.mem_or_eq_of_mem_set hx with hx | rfl
    · exact h.rg x hx
    · exact flip_rg (by omega) hb.1 hb.2
  · unfold rotL at hx
    rw [List.set_eq_of_length_le hl] at hx
    exact h.rg x hx
theorem rotted_ok {s : Ds} (h : DOk s) {i : Nat} (hi : i < s.k.length) (t : Nat) : DOk (rotted s i t) := by
  have hl : (rotted s i t).k.length = s.k.length := by simp [rotted]
  refine ⟨by rw [hl]; exact h.len, fun l hm => ?_, fun j l hj => by rw [hl]; exact h.key j l hj, h.l0, h.l1⟩
  rcases List.mem_or_eq_of_mem_set hm with hm | rfl
  · exact h.sec l hm
  · exact rotL_sec (h.sec _ (by simp [List.getD, hi])) t

section
variable {w w' : World} {g b m : Nat} {s : Ds}
theorem rot_no (h : Dk w g b m s) {i t : Int} (hn : has s i = false ∨ t < 0 ∨ 512 ≤ t) : Calls Tryz.prog 18 #[.pointer (some ⟨g, 0, none⟩), .int .i64 i, .int .i64 t] w fun e w' => (∃ v, e = .returned v) ∧ w' = w := by
  go_enter Tryz.func18, Tryz.ntmps18
  go_wp2_with fail
  refine (has_any h i).mono ?_
  rintro e w ⟨rfl, rfl⟩
  cases hh : has s i with
  | false =>
    go_wp2
    exact bodyPost_end (results_none rfl _ _ _) rfl ⟨⟨_, rfl⟩, rfl⟩
  | true =>
    rw [hh] at hn
    rcases hn with hn | hn | hn
    · cases hn
    · have d := decide_eq_false (show ¬ 0 ≤ t by omega)
      clear hh
      go_wp2
      exact bodyPost_end (results_none rfl _ _ _) rfl ⟨⟨_, rfl⟩, rfl⟩
    · have d := decide_eq_false (show ¬ t < 512 by omega)
      have h0 : 0 ≤ t := by omega
      clear hh
      go_wp2
      exact bodyPost_end (results_none rfl _ _ _) rfl ⟨⟨_, rfl⟩, rfl⟩
set_option maxHeartbeats 1000000 in
set_option maxRecDepth 100000 in
theorem rot_is (h : Dk w g b m s) {i t : Nat} (hi : i < s.k.length) (ht : t < 512) : Calls Tryz.prog 18 #[.pointer (some ⟨g, 0, none⟩), .int .i64 (i : Int), .int .i64 (t : Int)] w fun e w' => (∃ v, e = .returned v) ∧ Kp (Only b) w w' ∧ Dk w' g b m (rotted s i t) := by
  have hh : has s (i : Int) = true := by unfold has; simp [hi]
  have hlen := h.ok.len
  have hA := h.lts
  have O := hid h
  obtain ⟨p, hpt⟩ : ∃ p, t / 8 = p := ⟨_, rfl⟩
  obtain ⟨r, hrt⟩ : ∃ r, t % 8 = r := ⟨_, rfl⟩
  have hq : (t : Int) / 8 = (p : Int) := by omega
  have hr : (t : Int).tmod 8 = (r : Int) := by rw [Int.tmod_eq_emod_of_nonneg (by omega)]; omega
  have hp : p < 64 := by omega
  have hr8 : r < 8 := by omega
  have hpi : (p : Int) < 64 := by omega
  have hri : (r : Int) < 8 := by omega
  have hwp := wrapI (x := (p : Int)) (by unfold I64; omega)
  have hwr := wrapI (x := (r : Int)) (by unfold I64; omega)
  have HP := hid hpt
  have HR := hid hrt
  clear hpt hrt
  go_enter Tryz.func18, Tryz.ntmps18
  go_wp2_with fail
  refine (has_any O.out _).mono ?_
  rintro e w ⟨rfl, rfl⟩
  rw [hh]
  go_wp2_with fail
  have D1 := hid (O.out.kp0 (Kp.refl No w).drew)
  have c0 := O.out.hd.cell 0
  simp at c0
  have cx := D1.out.kt.cell hi hp
  obtain ⟨x, hx⟩ : ∃ x, (s.k.getD i []).getD p 0 = x := ⟨_, rfl⟩
  rw [hx] at cx
  clear h
  refine region_tail 16 (by kernel_rfl) (by kernel_rfl) ?_
  simp only [List.take_succ_cons, List.take_zero, List.drop_succ_cons, List.drop_zero]
  repeat still_step
  refine wpStill_nil ?_
  have fx := O.out.kt.frozen (i * 64 + p)
  go_wp2
  refine bodyPost_end (results_none rfl _ _ _) rfl ⟨⟨_, rfl⟩, ?_⟩
  have hl := (O.out.ok.sec (s.k.getD i []) (by simp [List.getD, hi])).len
  have k := Kp.set1 b (i * 64 + p) w (.int .u8 (flip r x))
  have t1 := O.out.kt.put1 (i := p) (flip r x) hi hp hl
  have D2 : Dk (w.setCell ⟨b, i * 64 + p, none⟩ (.int .u8 (flip r x))) g b m (rotted s i t) := by
    have hlen2 : (rotted s i t).k.length = s.k.length := by simp [rotted]
    refine ⟨?_, ?_, ?_, O.out.gb, O.out.gm, O.out.bm, rotted_ok O.out.ok hi t⟩
    · rw [hlen2]
      exact O.out.hd.kp k fun e => O.out.gb e
    · have e : (rotted s i t).k = s.k.set i ((s.k.getD i []).set p (flip r x)) := by
        unfold rotted rotL
        rw [HP.out, HR.out, hx]
      rw [e]
      exact t1
    · rw [hlen2]
      exact O.out.mp.kp k fun e => O.out.bm (Eq.symm e)
  exact ⟨k.drew, D2.kp0 ((Kp.refl No _).drew)⟩
end
end Go.Proofs.YtgfkbkonelphaaaGreatDoor

/-
  Slices of slices of sixty-four bytes, each in a block of its own: how they read; one more appended.
-/
namespace Go.Proofs.YtgfkbkonelphaaaGreatDoor
open Go.RowKit

/-- A slice of a whole block of sixty-four bytes. -/
def bf (q : Nat) (_ : Nat) : Value := .slice (some ⟨q, 0, none⟩) 64 64
theorem usB : Us Tryz.prog 51 36 1 24 (.slice none 0 0) := ⟨by kernel_rfl, by kernel_rfl, by decide, by decide⟩

/-- A row that the call owns. -/
def Ks (w : World) (base : Nat) (v : Value) (ks : List (List Int)) : Prop :=
  ∃ bs : List Nat, Ow w base 36 1 bf v bs ∧ bs.length = ks.length ∧ bs.Pairwise (· < ·) ∧ ∀ j, j < bs.length → base ≤ bs.getD j 0 ∧ Blk w (bs.getD j 0) 85 (sc (ks.getD j [])).toArray
/-- A row that is read; all its blocks in Q. -/
def Kr (w : World) (Q : Nat → Prop) (v : Value) (ks : List (List Int)) : Prop :=
  ∃ (A : Option Addr) (c : Nat) (bs : List Nat), v = .slice A bs.length c ∧ bs.length ≤ c ∧ c ≤ maxLen ∧ bs.length = ks.length ∧ bs.Pairwise (· < ·) ∧ (∀ j, j < bs.length → Q (bs.getD j 0) ∧ Blk w (bs.getD j 0) 85 (sc (ks.getD j [])).toArray) ∧
    (0 < bs.length → ∃ rb ro, A = some ⟨rb, ro, none⟩ ∧ rb < w.heap.size ∧ Q rb ∧ (∀ j, j < bs.length → bs.getD j 0 ≠ rb) ∧ ∀ j, j < bs.length → w.cell? ⟨rb, ro + j, none⟩ = some (bf (bs.getD j 0) 0))

section
variable {w w' : World} {base : Nat} {v : Value} {ks : List (List Int)} {S Q : Nat → Prop}
theorem Ks.nil (w : World) (base : Nat) : Ks w base (.slice none 0 0) [] := ⟨[], Ow.nil _ _ _ _ _, rfl, List.Pairwise.nil, fun j h => by simp at h⟩
theorem own_block {bs : List Nat} (h : Ow w base 36 1 bf v bs) {g : Nat} (hg : v.ownBlock = some g) : base ≤ g ∧ ∃ cur, w.heap[g]? = some (.cells cur 36 (0, 0)) := by
  rcases h.2 with ⟨rfl, _⟩ | ⟨g', cap, cur, rfl, hb, hh, _⟩
  · cases hg
  · cases hg
    exact ⟨hb, cur, hh⟩
theorem blk_ne {b g : Nat} {cs cur : Array Value} (h : Blk w b 85 cs) (hg : w.heap[g]? = some (.cells cur 36 (0, 0))) : b ≠ g := by
  rintro rfl
  unfold Blk at h
  rw [h] at hg
  injection hg with hg
  injection hg with _ h2
  exact absurd h2 (by decide)
theorem Ow.kpl {bs : List Nat} {e : TypeId} (h : Ow w base e 1 bf v bs) (k : Kp S w w') (hs : ∀ i, base ≤ i → i < w.heap.size → ¬ S i) : Ow w' base e 1 bf v bs := by
  refine ⟨h.1, ?_⟩
  rcases h.2 with hn | ⟨g, cap, cur, rfl, hb, hg, r⟩
  · exact .inl hn
  · have hl := (Array.getElem?_eq_some_iff.1 hg).1
    exact .inr ⟨g, cap, cur, rfl, hb, (k.block g hl (hs g hb hl)).trans hg, r⟩
theorem Ks.kp (h : Ks w base v ks) (k : Kp S w w') (hs : ∀ i, base ≤ i → i < w.heap.size → ¬ S i) : Ks w' base v ks := by
  obtain ⟨bs, h1, h2, h3, h4⟩ := h
  exact ⟨bs, h1.kpl k hs, h2, h3, fun j hj => ⟨(h4 j hj).1, (h4 j hj).2.kp k (hs _ (h4 j hj).1 (h4 j hj).2.lt)⟩⟩
theorem Ks.kp0 (h : Ks w base v ks) (k : Kp No w w') : Ks w' base v ks := h.kp k fun _ _ _ h => h
theorem Ks.formN {n : Nat} (h : Ks w base v ks) (hl : ks.length = n) : ∃ A c, v = .slice A n c := by
  obtain ⟨bs, h1, h2, _⟩ := h
  exact h1.formN (by omega)
theorem Ks.kr (h : Ks w base v ks) : Kr w (fun i => base ≤ i ∧ i < w.heap.size) v ks := by
  obtain ⟨bs, h1, h2, h3, h4⟩ := h
  have hr := h1.rw (d := 0)
  have hq : ∀ j, j < bs.length → (base ≤ bs.getD j 0 ∧ bs.getD j 0 < w.heap.size) ∧ Blk w (bs.getD j 0) 85 (sc (ks.getD j [])).toArray := fun j hj => ⟨⟨(h4 j hj).1, (h4 j hj).2.lt⟩, (h4 j hj).2⟩
  rcases h1.2 with ⟨rfl, h0⟩ | ⟨g, cap, cur, rfl, hb, hg, hl, hm, hs, ht⟩
  · have : bs = [] := List.eq_nil_of_length_eq_zero h0
    subst this
    exact ⟨none, 0, [], rfl, Nat.le_refl _, by simp [maxLen], h2, h3, fun j h => by simp at h, fun h => by simp at h⟩
  · refine ⟨some ⟨g, 0, none⟩, cap, bs, rfl, hl, hm, h2, h3, hq, fun _ => ⟨g, 0, rfl, (Array.getElem?_eq_some_iff.1 hg).1, ⟨hb, (Array.getElem?_eq_some_iff.1 hg).1⟩, fun j hj => blk_ne (h4 j hj).2 hg, fun j hj => ?_⟩⟩
    have := hr.cell (i := 0) (Kp.refl No w) hj (Nat.lt_succ_self 0) rfl
    rwa [show j * 1 + 0 = j by omega] at this
theorem Kr.kp (h : Kr w Q v ks) (k : Kp S w w') (hs : ∀ i, Q i → i < w.heap.size → ¬ S i) : Kr w' Q v ks := by
  obtain ⟨A, c, bs, rfl, h1, h2, h3, h4, h5, h6⟩ := h
  refine ⟨A, c, bs, rfl, h1, h2, h3, h4, fun j hj => ⟨(h5 j hj).1, (h5 j hj).2.kp k (hs _ (h5 j hj).1 (h5 j hj).2.lt)⟩, fun h0 => ?_⟩
  obtain ⟨rb, ro, e, g1, g2, g3, g4⟩ := h6 h0
  exact ⟨rb, ro, e, Nat.lt_of_lt_of_le g1 k.size, g2, g3, fun j hj => (k.cell (p := ⟨rb, ro + j, none⟩) g1 (hs rb g2 g1)).trans (g4 j hj)⟩
theorem Kr.kp0 (h : Kr w Q v ks) (k : Kp No w w') : Kr w' Q v ks := h.kp k fun _ _ _ h => h
theorem Kr.mono {Q' : Nat → Prop} (h : Kr w Q v ks) (hq : ∀ i, Q i → Q' i) : Kr w Q' v ks := by
  obtain ⟨A, c, bs, rfl, h1, h2, h3, h4, h5, h6⟩ := h
  refine ⟨A, c, bs, rfl, h1, h2, h3, h4, fun j hj => ⟨hq _ (h5 j hj).1, (h5 j hj).2⟩, fun h0 => ?_⟩
  obtain ⟨rb, ro, e, g1, g2, g3⟩ := h6 h0
  exact ⟨rb, ro, e, g1, hq _ g2, g3⟩
theorem Kr.form (h : Kr w Q v ks) : ∃ A c, v = .slice A ks.length c := by
  obtain ⟨A, c, bs, rfl, _, _, h3, _⟩ := h
  exact ⟨A, c, by rw [h3]⟩
/-- One of its slices. -/
theorem Kr.get {A : Option Addr} {n c : Nat} (h : Kr w Q (.slice A n c) ks) {j : Nat} (hj : j < ks.length) : ∃ rb ro q, A = some ⟨rb, ro, none⟩ ∧ w.cell? ⟨rb, ro + j, none⟩ = some (.slice (some ⟨q, 0, none⟩) 64 64) ∧ Q q ∧ Q rb ∧ rb ≠ q ∧ Blk w q 85 (sc (ks.getD j [])).toArray := by
  obtain ⟨A', c', bs, he, h1, h2, h3, h4, h5, h6⟩ := h
  injection he with e1 e2 e3
  subst e1
  obtain ⟨rb, ro, e, g1, g2, g3, g4⟩ := h6 (by omega)
  exact ⟨rb, ro, bs.getD j 0, e, g4 j (by omega), (h5 j (by omega)).1, g2, fun x => g3 j (by omega) x.symm, (h5 j (by omega)).2⟩
/-- A byte of one of them laid. -/
theorem Kr.put {A : Option Addr} {n c : Nat} (h : Kr w Q (.slice A n c) ks) {j p q rb ro : Nat} (hj : j < ks.length) (hA : A = some ⟨rb, ro, none⟩) (hq : w.cell? ⟨rb, ro + j, none⟩ = some (.slice (some ⟨q, 0, none⟩) 64 64)) (x : Int) : Kr (w.setCell ⟨q, p, none⟩ (.int .u8 x)) Q (.slice A n c) (ks.set j ((ks.getD j []).set p x)) := by
  obtain ⟨A', c', bs, he, h1, h2, h3, h4, h5, h6⟩ := h
  injection he with e1 e2 e3
  subst e1 e2 e3
  obtain ⟨rb', ro', e, g1, g2, g3, g4⟩ := h6 (by omega)
  rw [hA] at e
  injection e with e
  injection e with e1 e2 _
  subst e1 e2
  have hqj : q = bs.getD j 0 := by
    have := g4 j (by omega)
    rw [hq] at this
    simp [bf] at this
    simpa [List.getD] using this
  have k := Kp.set1 q p w (.int .u8 x)
  refine ⟨A, c, bs, rfl, h1, h2, by simpa using h3, h4, fun i hi => ⟨(h5 i hi).1, ?_⟩, fun h0 => ⟨rb, ro, hA, Nat.lt_of_lt_of_le g1 k.size, g2, g3, fun i hi => ?_⟩⟩
  · by_cases hij : i = j
    · subst hij
      have := (h5 i hi).2.put p (.int .u8 x)
      rw [← hqj] at this ⊢
      rw [getD_set_self hj]
      have e : (sc ((ks.getD i []).set p x)).toArray = (sc (ks.getD i [])).toArray.setIfInBounds p (Value.int IntKind.u8 x) := by
        unfold sc
        rw [List.map_set, List.setIfInBounds_toArray]
      rw [e]
      exact this
    · rw [getD_set_ne (Ne.symm hij)]
      refine (h5 i hi).2.kp k fun e => hij ?_
      have e : bs.getD i 0 = q := e
      have hnd : bs.Nodup := h4.imp fun h => Nat.ne_of_lt h
      rw [hqj] at e
      simp only [List.getD_eq_getElem?_getD] at e
      rw [List.getElem?_eq_getElem hi, List.getElem?_eq_getElem (by omega)] at e
      exact (List.getElem_inj hnd).1 e
  · exact (k.cell (p := ⟨rb, ro + i, none⟩) g1 fun e => by
      have e : rb = q := e
      exact g3 j (by omega) (by rw [← hqj]; exact e.symm)).trans (g4 i hi)
end

section
variable {ops : Array Oper} {rest : List Oper} {o : Oper} {a : Act} {w w0 : World} {Q : Exit → Act → World → Prop}
/-- 'make([][]byte, 0, n)'. -/
theorem wp_mk28 (hg : o.guard = none) (l c : Operand) (ho : o.op = .makeSlice 51 l c) {n : Nat} (hl : a.eval l = .int .i64 0) (hc : a.eval c = .int .i64 (n : Int)) (hn : n ≤ 100000)
    (h : ∀ w', Ks w' w.heap.size (.slice (some ⟨w.heap.size, 0, none⟩) 0 n) [] → Kp No w w' → wpList Tryz.prog ops Q rest (a.put o.dst (.slice (some ⟨w.heap.size, 0, none⟩) 0 n)) w') : wpList Tryz.prog ops Q (o :: rest) a w := by
  obtain ⟨i, hi, hz, hs, hb⟩ := info_parts usB.info
  obtain ⟨w', hr, h1, h2⟩ := run_make_own (P := Tryz.prog) w w.heap.size 51 36 i _ 1 usB.un hi hz hs .i64 .i64 n (by rw [hb]; omega) (by unfold maxLen; omega) (Nat.le_refl _)
  refine wpList_plain hg fun K hK => ?_
  unfold Oper.wp
  simp only [execOp, ho, hl, hc, Sem.run_bind, hr, Result.andThen_ok]
  exact hK _ _ (h _ ⟨[], h1, rfl, List.Pairwise.nil, fun j h => by simp at h⟩ ((Kp.refl No w).grown h2 fun k e => by cases e))
/-- One more. -/
theorem wp_snoc (hg : Region.wanted o (yielded ops a.tmps) = true) (s x : Operand) (ho : o.op = .call { callee := .builtin .append, args := #[s, x], argTypes := #[51, 51] }) {base q p : Nat} {ks : List (List Int)} {l : List Int} {S : Nat → Prop} {v : Value}
    (hv : a.eval s = v) (hs : Ks w0 base v ks) (k : Kp S w0 w) (hS : ∀ i, base ≤ i → i < w0.heap.size → ¬ S i) (hbase : base ≤ w0.heap.size) (hx : a.eval x = .slice (some ⟨p, 0, none⟩) 1 1) (hp : w.cell? ⟨p, 0, none⟩ = some (.slice (some ⟨q, 0, none⟩) 64 64)) (hb : Blk w q 85 (sc l).toArray) (hq : w0.heap.size ≤ q) (hn : ks.length ≤ 100000)
    (h : ∀ v' w', Ks w' base v' (ks ++ [l]) → Kp (fun i => base ≤ i ∧ i < w0.heap.size) w w' → wpList Tryz.prog ops Q rest (a.put o.dst v') w') : wpList Tryz.prog ops Q (o :: rest) a w := by
  subst hv
  have hlt : ∀ bs : List Nat, (∀ j, j < bs.length → base ≤ bs.getD j 0 ∧ Blk w0 (bs.getD j 0) 85 (sc (ks.getD j [])).toArray) → ∀ y ∈ bs, y < q := fun bs h4 y hy => by
    obtain ⟨j, hj, rfl⟩ := List.getElem_of_mem hy
    have := (h4 j hj).2.lt
    rw [List.getD_eq_getElem?_getD, List.getElem?_eq_getElem hj] at this
    exact Nat.lt_of_lt_of_le this hq
  obtain ⟨bs, h1, h2, h3, h4⟩ := hs
  have h1w := h1.kpl k hS
  have hpl := World.block_lt_of_cell? w _ hp
  refine BigFrame.wpList_want hg fun K hK => ?_
  have hrx : Rw 1 bf 0 w Anyb (a.eval x) [q] := by
    rw [hx]
    refine ⟨_, 1, rfl, Nat.le_refl _, by simp [maxLen], fun _ => ⟨p, 0, rfl, hpl, trivial, fun j i hj hi => ?_⟩⟩
    have e1 : j = 0 := by simpa using hj
    have e2 : i = 0 := by omega
    subst e1 e2
    exact hp
  obtain ⟨v', w', hrun, g2, g3⟩ := run_apps (P := Tryz.prog) (ty := o.type) usB (fun _ _ => rfl) w h1w hrx (by simp; omega) (by simp [maxLen]; omega) (Nat.le_trans hbase k.size)
  unfold Oper.wp execOp
  simp only [ho, resolve, invoke, builtin, Sem.run_bind, Sem.run_pure, Result.andThen_ok, List.map_toArray, List.map_cons, List.map_nil, hrun]
  have kk : ∀ g, (a.eval s).ownBlock = some g → base ≤ g ∧ g < w0.heap.size := fun g hg => by
    obtain ⟨b1, cur, hcur⟩ := own_block h1 hg
    exact ⟨b1, (Array.getElem?_eq_some_iff.1 hcur).1⟩
  have kw : Kp (fun i => (a.eval s).ownBlock = some i) w w' := (Kp.refl _ w).grown g3 fun i e => .inl e
  have inner : ∀ b (cs : Array Value), Blk w b 85 cs → Blk w' b 85 cs := fun b cs hb => hb.kp kw fun e => by
    obtain ⟨_, cur, hcur⟩ := own_block h1w e
    exact blk_ne hb hcur rfl
  refine hK _ _ (h v' w' ⟨bs ++ [q], g2, by simp [h2], ?_, fun j hj => ?_⟩ (kw.mono fun i _ e => kk i e))
  · refine List.pairwise_append.2 ⟨h3, by simp, fun x hx y hy => ?_⟩
    rw [List.mem_singleton.1 hy]
    exact hlt bs h4 x hx
  · by_cases hj2 : j < bs.length
    · have e1 : (bs ++ [q]).getD j 0 = bs.getD j 0 := by simp [List.getD, List.getElem?_append_left hj2]
      have e2 : (ks ++ [l]).getD j [] = ks.getD j [] := by simp [List.getD, List.getElem?_append_left (show j < ks.length by omega)]
      rw [e1, e2]
      exact ⟨(h4 j hj2).1, inner _ _ ((h4 j hj2).2.kp k (hS _ (h4 j hj2).1 (h4 j hj2).2.lt))⟩
    · have ej : j = bs.length := by simp at hj; omega
      subst ej
      have e1 : (bs ++ [q]).getD bs.length 0 = q := by simp [List.getD]
      have e2 : (ks ++ [l]).getD bs.length [] = l := by rw [h2]; simp [List.getD]
      rw [e1, e2]
      exact ⟨Nat.le_trans hbase hq, inner _ _ hb⟩
end
end Go.Proofs.YtgfkbkonelphaaaGreatDoor

/-
  Contract of disk's Kept.
-/
namespace Go.Proofs.YtgfkbkonelphaaaGreatDoor
open Go.RowKit

section
variable {w w' : World} {g b m : Nat} {s : Ds}
set_option maxHeartbeats 1000000 in
set_option maxRecDepth 100000 in
theorem kept_any (h : Dk w g b m s) : Calls Tryz.prog 24 #[.pointer (some ⟨g, 0, none⟩)] w fun e w' => ∃ v, e = .returned v ∧ Ks w' w.heap.size v s.k ∧ Kp No w w' := by
  have hlen := h.ok.len
  have hA := h.lts
  have O := hid h
  clear h
  obtain ⟨n, hn⟩ : ∃ n, s.k.length = n := ⟨_, rfl⟩
  have HN := hid hn
  go_enter Tryz.func24, Tryz.ntmps24
  go_wp2_with fail
  refine (len_any O.out).mono ?_
  rintro e w ⟨rfl, rfl⟩
  rw [hn] at hlen ⊢
  clear hn
  go_wp2_with (refine wp_mk28 rfl _ _ rfl rfl rfl (by omega) ?_; intro w1 ks1 k1; have D1 := O.out.kp0 k1; have c0 := D1.hd.cell 0; simp at c0; rw [HN.out] at c0)
  obtain ⟨B, hB⟩ : ∃ B, w.heap.size = B := ⟨_, rfl⟩
  have hB1 := k1.size
  have K1 := hid k1
  have KS1 := hid ks1
  clear D1 c0 k1 ks1
  have HB := hid hB
  simp only [hB] at KS1 hB1 hA ⊢
  clear hB
  go_loopw [3, 14] (fun v i wr => ∃ k : Nat, k ≤ n ∧ i = .int .i64 (k : Int) ∧ Hid (Ks wr B v (s.k.take k)) ∧ Hid (Kp No w wr)) (fun _ i _ => n - (intOf i).toNat)
  case atStart => exact ⟨0, Nat.zero_le _, rfl, KS1, K1⟩
  case round =>
    obtain ⟨k, hk, rfl, KS, KP⟩ := hrel
    have hs0 : B ≤ wr.heap.size := by have := KP.out.size; have := HB.out; omega
    by_cases hkn : k < n
    · obtain ⟨l, hl⟩ : ∃ l, s.k.getD k [] = l := ⟨_, rfl⟩
      have hkl : k < s.k.length := by rw [HN.out]; exact hkn
      have HL := hid hl
      have HS := hid (show l.length = 64 by rw [← hl]; exact (O.out.ok.sec _ (by simp [List.getD, hkl])).len)
      have HT := hid (show s.k.take (k + 1) = s.k.take k ++ [l] by rw [List.take_succ_eq_append_getElem hkl, ← hl]; simp [List.getD, hkl])
      have D := hid (O.out.kp0 KP.out)
      have hsum := wrapI (x := (k : Int) + 1) (by unfold I64; omega)
      clear hl
      obtain ⟨A0, c0', rfl⟩ := KS.out.formN (n := k) (by rw [List.length_take, HN.out]; omega)
      go_wp2_with (first
        | (refine wp_got57 rfl _ rfl rfl D.out.kt hkl HL.out HS.out ?_)
        | (refine wp_new57 rfl rfl ?_; intro w2 b2 k2 z2)
        | (refine wp_lay57 rfl _ _ rfl rfl rfl b2 sc_zs_size HS.out ?_; intro w3 b3 k3 z3)
        | (refine wp_get57 rfl _ rfl rfl b3 HS.out ?_)
        | ((with_reducible refine (told_any HS.out _).mono ?_); rintro e w4 ⟨rfl, rfl⟩)
        | (refine wp_snoc (w0 := wr) (base := B) (ks := s.k.take k) (l := l) (S := Only wr.heap.size) (q := wr.heap.size + 1) (p := wr.heap.size + 1 + 1) rfl _ _ rfl rfl KS.out (((k2.all.trans k3).alloc _).alloc _) (fun i _ hi e => by have : i = wr.heap.size := e; omega) (by omega) rfl (by rw [show wr.heap.size + 1 + 1 = (w3.alloc (Obj.cells (sc l).toArray 85)).heap.size by simp; omega]; simp) (((Blk.new w3 _ _).next (by omega)).kp0 ((Kp.refl No _).alloc _)) (by omega) (by rw [List.length_take]; omega) ?_; intro v5 w5 ks5 k5; rw [← HT.out] at ks5; obtain ⟨A5, c5, rfl⟩ := ks5.formN (n := k + 1) (by rw [List.length_take, HN.out]; omega)))
      have KP5 := hid ((((KP.out.all (S := fun i => B ≤ i ∧ i < wr.heap.size)).trans (k2.all)).step k3 (fun i hi e => by have : i = wr.heap.size := e; have := HB.out; omega)).trans ((Kp.refl _ w3).alloc (Obj.cells (sc l).toArray 85)))
      have KP6 := hid ((KP5.out.trans ((Kp.refl _ _).alloc (Obj.cells #[Value.slice (some { block := wr.heap.size + 1, off := 0 }) 64 64] 36))).trans k5)
      have KP7 := hid (show Kp No w w5 from KP6.out.mono fun i hi e => by have := HB.out; omega)
      have KS5 := hid ks5
      go_roundw
      case rel => exact ⟨k + 1, by omega, by go_num, KS5, KP7⟩
      case measure => simp [intOf]; omega
    · obtain rfl : k = n := by omega
      have e : s.k.take k = s.k := List.take_of_length_le (by rw [HN.out]; omega)
      go_wp2
      go_ret
      have := KS.out
      rw [e] at this
      exact ⟨_, rfl, by rw [HB.out]; exact this, KP.out⟩
end
end Go.Proofs.YtgfkbkonelphaaaGreatDoor

/-
  Contracts of the three comparisons: of bytes, of ints, of rows of sectors.
-/
namespace Go.Proofs.YtgfkbkonelphaaaGreatDoor
open Go.RowKit

theorem dtake_snocL {α : Type} {d : α} (xs : List α) (k : Nat) (h : k < xs.length) : xs.take (k + 1) = xs.take k ++ [xs.getD k d] := by
  rw [List.take_succ_eq_append_getElem h]
  simp [List.getD, h]
theorem dtake_snoc (xs : List Int) (k : Nat) (h : k < xs.length) : xs.take (k + 1) = xs.take k ++ [xs.getD k 0] := dtake_snocL xs k h

theorem dsame_any {S T : Nat → Prop} (v u : Value) (xs ys : List Int) (w : World) (h : Byt w S v xs) (h' : Byt w T u ys) :
    Calls Tryz.prog 33 #[v, u] w fun e w' => e = .returned (.bool (decide (xs = ys))) ∧ ∃ n, w' = w.drewN n := by
  obtain ⟨A, c, rfl, hc, hm, hx, hr⟩ := h
  obtain ⟨A', c', rfl, hc', hm', hx', hr'⟩ := h'
  have HR := hid hr
  have HR' := hid hr'
  unfold maxLen at hm hm'
  clear hr hx hr' hx'
  by_cases hne : xs.length = ys.length
  · have he : (((xs.length : Nat) : Int) == ((ys.length : Nat) : Int)) = true := by simp [hne]
    have he2 : (((xs.length : Nat) : Int) != ((ys.length : Nat) : Int)) = false := by simp [hne]
    have HN := hid hne
    clear hne
    go_enter Tryz.func33, Tryz.ntmps33
    go_wp2
    clear he he2
    go_loopw [5] (fun i w' => ∃ k n : Nat, k ≤ xs.length ∧ i = .int .i64 k ∧ w' = w.drewN n ∧ xs.take k = ys.take k) (fun i _ => xs.length - (intOf i).toNat)
    case atStart => exact ⟨0, 0, Nat.zero_le _, rfl, rfl, by simp⟩
    case round =>
      obtain ⟨k, n, hk, rfl, rfl, ht⟩ := hrel
      have HT := hid ht
      clear ht
      by_cases hlt : k < xs.length
      · have hlt2 : k < ys.length := by have := HN.out; omega
        obtain ⟨b, o, rfl, hb, hS, hcell⟩ := HR.out (by omega)
        obtain ⟨b', o', rfl, hb', hS', hcell'⟩ := HR'.out (by omega)
        have hc1 := hcell k hlt
        have hc2 := hcell' k hlt2
        clear hcell hcell'
        obtain ⟨x, hx⟩ : ∃ x, xs.getD k 0 = x := ⟨_, rfl⟩
        obtain ⟨y, hy⟩ : ∃ y, ys.getD k 0 = y := ⟨_, rfl⟩
        rw [hx] at hc1
        rw [hy] at hc2
        have HX := hid hx
        have HY := hid hy
        have hki : (k : Int) < (xs.length : Int) := by omega
        have hki2 : (k : Int) < (ys.length : Int) := by omega
        clear hx hy HR HR'
        by_cases heq : x = y
        · subst heq
          have hb1 : (x != x) = false := by simp
          go_wp2
          go_quiet (fail)
          go_wp2
          go_roundw
          case rel =>
            refine ⟨k + 1, _, by omega, by go_num, rfl, ?_⟩
            rw [dtake_snoc xs k hlt, dtake_snoc ys k hlt2, HX.out, HY.out, HT.out]
          case measure => simp [intOf]; omega
        · have hb1 : (x != y) = true := by simp [heq]
          have hb2 : (x == y) = false := by simp [heq]
          go_wp2
          go_quiet (fail)
          go_wp2
          go_ret
          have hd : ¬ xs = ys := fun e => heq (by rw [← HX.out, ← HY.out, e])
          exact ⟨by simp [hd], _, by rw [World.drewN_drewN]⟩
      · go_wp2
        go_ret
        have hd : xs = ys := by
          have := HT.out
          rwa [List.take_of_length_le (by omega), List.take_of_length_le (by have := HN.out; omega)] at this
        exact ⟨by simp [hd], _, rfl⟩
  · have he2 : (((xs.length : Nat) : Int) != ((ys.length : Nat) : Int)) = true := by rw [bne_iff_ne]; omega
    have hd : ¬ xs = ys := fun e => hne (by rw [e])
    have HD := hid hd
    clear hd hne
    go_enter Tryz.func33, Tryz.ntmps33
    go_wp2
    go_ret
    exact ⟨by simp [HD.out], 0, rfl⟩
theorem toList_loop (a : ByteArray) : ∀ (n i : Nat) (r : List UInt8), a.size - i = n → ByteArray.toList.loop a i r = r.reverse ++ a.data.toList.drop i := by
  intro n
  induction n with
  | zero =>
    intro i r h
    unfold ByteArray.toList.loop
    have : a.data.size = a.size := rfl
    rw [if_neg (by omega), List.drop_eq_nil_of_le (by simp; omega), List.append_nil]
  | succ n ih =>
    intro i r h
    unfold ByteArray.toList.loop
    rw [if_pos (by omega), ih _ _ (by omega)]
    have hz : a.data.size = a.size := rfl
    have hi : i < a.data.toList.length := by simp; omega
    rw [List.drop_eq_getElem_cons hi]
    simp [ByteArray.get!]
    rw [getElem!_pos _ _ (by omega)]
theorem toList_data (a : ByteArray) : a.toList = a.data.toList := by
  unfold ByteArray.toList
  rw [toList_loop a _ 0 [] rfl]
  rfl
theorem strOf_inj {a b : List Int} (ha : ∀ x ∈ a, 0 ≤ x ∧ x ≤ 255) (hb : ∀ x ∈ b, 0 ≤ x ∧ x ≤ 255) (h : (strOfNums a).toList = (strOfNums b).toList) : a = b := by
  have e := h
  rw [toList_data, toList_data, strOfNums_data, strOfNums_data] at e
  have hl : a.length = b.length := by simpa using congrArg List.length e
  refine List.ext_getElem hl fun j h1 h2 => ?_
  have ej := congrArg (fun l : List UInt8 => l[j]?) e
  simp [h1, h2] at ej
  have b1 := ha _ (List.getElem_mem h1)
  have b2 := hb _ (List.getElem_mem h2)
  have en := congrArg UInt8.toNat ej
  simp at en
  omega

/-- Two rows of sectors compared as texts. -/
theorem sameK_any {S T : Nat → Prop} (v u : Value) (xs ys : List (List Int)) (w : World) (h : Kr w S v xs) (h' : Kr w T u ys) (sx : ∀ l ∈ xs, Sec l) (sy : ∀ l ∈ ys, Sec l) :
    Calls Tryz.prog 23 #[v, u] w fun e w' => e = .returned (.bool (decide (xs = ys))) ∧ ∃ n, w' = w.drewN n := by
  obtain ⟨A, c, rfl⟩ := h.form
  obtain ⟨A', c', rfl⟩ := h'.form
  have HR := hid h
  have HR' := hid h'
  have hm : xs.length ≤ 9223372036854775807 := by
    obtain ⟨_, _, bs, e, h1, h2, h3, _⟩ := h
    unfold maxLen at h2
    omega
  have hm' : ys.length ≤ 9223372036854775807 := by
    obtain ⟨_, _, bs, e, h1, h2, h3, _⟩ := h'
    unfold maxLen at h2
    omega
  have SX := hid sx
  have SY := hid sy
  clear h h' sx sy
  by_cases hne : xs.length = ys.length
  · have he : (((xs.length : Nat) : Int) == ((ys.length : Nat) : Int)) = true := by simp [hne]
    have he2 : (((xs.length : Nat) : Int) != ((ys.length : Nat) : Int)) = false := by simp [hne]
    have HN := hid hne
    clear hne
    go_enter Tryz.func23, Tryz.ntmps23
    go_wp2
    clear he he2
    go_loopw [5] (fun i w' => ∃ k n : Nat, k ≤ xs.length ∧ i = .int .i64 k ∧ w' = w.drewN n ∧ xs.take k = ys.take k) (fun i _ => xs.length - (intOf i).toNat)
    case atStart => exact ⟨0, 0, Nat.zero_le _, rfl, rfl, by simp⟩
    case round =>
      obtain ⟨k, n, hk, rfl, rfl, ht⟩ := hrel
      have HT := hid ht
      clear ht
      by_cases hlt : k < xs.length
      · have hlt2 : k < ys.length := by have := HN.out; omega
        obtain ⟨b, o, q, rfl, hc1, _, _, _, B1⟩ := HR.out.get hlt
        obtain ⟨b', o', q', rfl, hc2, _, _, _, B2⟩ := HR'.out.get hlt2
        obtain ⟨x, hx⟩ : ∃ x, xs.getD k [] = x := ⟨_, rfl⟩
        obtain ⟨y, hy⟩ : ∃ y, ys.getD k [] = y := ⟨_, rfl⟩
        rw [hx] at B1
        rw [hy] at B2
        have sx := SX.out x (by rw [← hx]; simp [List.getD, hlt])
        have sy := SY.out y (by rw [← hy]; simp [List.getD, hlt2])
        have hcv1 : ∀ m, (convert 36 9 (.slice (some ⟨q, 0, none⟩) 64 64)).run Tryz.prog (w.drewN m) = .ok (.string (strOfNums x)) (w.drewN m) := fun m => run_convert_bytes_arg (P := Tryz.prog) (w.drewN m) 36 5 (by kernel_rfl) (by kernel_rfl) q 0 64 64 x sx.len (fun i hi => by
          rw [Nat.zero_add]
          have := (B1.kp0 ((Kp.refl No w).drewN m)).cell i
          rw [this, List.getElem?_toArray, sc_at (by rw [sx.len]; exact hi)]) 9 (by kernel_rfl)
        have hcv2 : ∀ m, (convert 36 9 (.slice (some ⟨q', 0, none⟩) 64 64)).run Tryz.prog (w.drewN m) = .ok (.string (strOfNums y)) (w.drewN m) := fun m => run_convert_bytes_arg (P := Tryz.prog) (w.drewN m) 36 5 (by kernel_rfl) (by kernel_rfl) q' 0 64 64 y sy.len (fun i hi => by
          rw [Nat.zero_add]
          have := (B2.kp0 ((Kp.refl No w).drewN m)).cell i
          rw [this, List.getElem?_toArray, sc_at (by rw [sy.len]; exact hi)]) 9 (by kernel_rfl)
        have HX := hid hx
        have HY := hid hy
        have HI := hid (fun h => strOf_inj sx.rg sy.rg h)
        have hki : (k : Int) < (xs.length : Int) := by omega
        have hki2 : (k : Int) < (ys.length : Int) := by omega
        obtain ⟨X, hX⟩ : ∃ X, strOfNums x = X := ⟨_, rfl⟩
        obtain ⟨Y, hY⟩ : ∃ Y, strOfNums y = Y := ⟨_, rfl⟩
        rw [hX] at hcv1 HI
        rw [hY] at hcv2 HI
        have HX2 := hid hX
        have HY2 := hid hY
        clear hx hy HR HR' B1 B2 sx sy hX hY
        by_cases heq : X.toList = Y.toList
        · have hxy := hid (HI.out heq)
          have hb1 : (X.toList == Y.toList) = true := by simp [heq]
          clear heq
          go_wp2
          go_quiet (fail)
          go_wp2
          go_roundw
          case rel =>
            refine ⟨k + 1, _, by omega, by go_num, rfl, ?_⟩
            rw [dtake_snocL xs k hlt, dtake_snocL ys k hlt2, HX.out, HY.out, HT.out, hxy.out]
          case measure => simp [intOf]; omega
        · have hb2 : (X.toList == Y.toList) = false := by simp [heq]
          have HE := hid heq
          clear heq
          go_wp2
          go_quiet (fail)
          go_wp2
          go_ret
          have hd : ¬ xs = ys := fun e => HE.out (by rw [← HX2.out, ← HY2.out, ← HX.out, ← HY.out, e])
          exact ⟨by simp [hd], _, by rw [World.drewN_drewN]⟩
      · go_wp2
        go_ret
        have hd : xs = ys := by
          have := HT.out
          rwa [List.take_of_length_le (by omega), List.take_of_length_le (by have := HN.out; omega)] at this
        exact ⟨by simp [hd], _, rfl⟩
  · have he2 : (((xs.length : Nat) : Int) != ((ys.length : Nat) : Int)) = true := by rw [bne_iff_ne]; omega
    have hd : ¬ xs = ys := fun e => hne (by rw [e])
    have HD := hid hd
    clear hd hne
    go_enter Tryz.func23, Tryz.ntmps23
    go_wp2
    go_ret
    exact ⟨by simp [HD.out], 0, rfl⟩
end Go.Proofs.YtgfkbkonelphaaaGreatDoor
