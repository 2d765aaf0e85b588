/-
  A shelf in memory: its head, and the row of its nodes; stores into it. Then the contracts of what only looks at it: node, many, deep, ahead, Less, Len.
-/
import Derived.Test.YtpbnmfoecmhnnaaOwn
import Derived.Test.YtpbnmfoecmhnnaaHeld
import Derived.Test.YtpbnmfoecmhnnaaSMath
import Derived.StillTailTactics
import Derived.Test.YtpbnmfoecmhnnaaChecked
namespace Go.Proofs.Ytpbnmfoecmhnnaa
open Go.RowKit

def nc (x : Nd) : Nat → Value
  | 0 => .int .i64 x.it.key
  | 1 => .int .i64 x.it.id
  | 2 => .int .i64 (x.lo : Int)
  | 3 => .int .i64 (x.hi : Int)
  | 4 => .int .i64 (x.many : Int)
  | _ => .int .i64 (x.deep : Int)
/-- Where a place's node lies. -/
def ad (p : Nat) : Nat := (p - 1) * 6
theorem ad_inj {p q i j : Nat} (hp : 1 ≤ p) (hq : 1 ≤ q) (hi : i < 6) (hj : j < 6) (h : ad p + i = ad q + j) : p = q ∧ i = j := by
  unfold ad at h
  omega

/-- Block b holds n nodes, in an array for c. -/
def Nds (w : World) (b c n : Nat) (nd : Nat → Nd) : Prop :=
  ∃ cur : Array Value, w.heap[b]? = some (.cells cur 103 (0, 0)) ∧ cur.size = c * 6 ∧ n ≤ c ∧ c ≤ maxLen ∧ ∀ p i, 1 ≤ p → p ≤ n → i < 6 → cur[ad p + i]? = some (nc (nd p) i)

section
variable {w w' : World} {g b c n top : Nat} {nd nd' : Nat → Nd} {S : Nat → Prop}
theorem Nds.cell (h : Nds w b c n nd) {p i : Nat} (h1 : 1 ≤ p) (h2 : p ≤ n) (hi : i < 6) : w.cell? ⟨b, ad p + i, none⟩ = some (nc (nd p) i) := by
  obtain ⟨cur, hc, _, _, _, ht⟩ := h
  rw [cell_of_row w b _ cur _ (0, 0) hc]
  exact ht p i h1 h2 hi
theorem Nds.frozen (h : Nds w b c n nd) (i : Nat) : w.frozen? ⟨b, i, none⟩ = false := by
  obtain ⟨cur, hc, _⟩ := h
  simp [World.frozen?, hc]
theorem Nds.lt (h : Nds w b c n nd) : b < w.heap.size := by
  obtain ⟨cur, hc, _⟩ := h
  exact (Array.getElem?_eq_some_iff.1 hc).1
theorem Nds.kp (h : Nds w b c n nd) (k : Kp S w w') (hn : ¬ S b) : Nds w' b c n nd := by
  obtain ⟨cur, hc, hr⟩ := h
  exact ⟨cur, (k.block b (Array.getElem?_eq_some_iff.1 hc).1 hn).trans hc, hr⟩
theorem Nds.less (h : Nds w b c n nd) {m : Nat} (hm : m ≤ n) : Nds w b c m nd := by
  obtain ⟨cur, hc, h1, h2, h3, h4⟩ := h
  exact ⟨cur, hc, h1, by omega, h3, fun p i a b d => h4 p i a (by omega) d⟩
theorem Nds.ext (h : Nds w b c n nd) (e : ∀ p, 1 ≤ p → p ≤ n → nd p = nd' p) : Nds w b c n nd' := by
  obtain ⟨cur, hc, h1, h2, h3, h4⟩ := h
  exact ⟨cur, hc, h1, h2, h3, fun p i a b d => by rw [← e p a b]; exact h4 p i a b d⟩
theorem Nds.put (h : Nds w b c n nd) {p i : Nat} (h1 : 1 ≤ p) (h2 : p ≤ n) (hi : i < 6) (y : Nd) {u : Value} (hu : nc y i = u) (hy : ∀ j, j < 6 → j ≠ i → nc y j = nc (nd p) j) : Nds (w.setCell ⟨b, ad p + i, none⟩ u) b c n (upd nd p y) := by
  obtain ⟨cur, hc, k1, k2, k3, k4⟩ := h
  refine ⟨cur.setIfInBounds (ad p + i) u, ?_, by simpa using k1, k2, k3, fun q j q1 q2 hj => ?_⟩
  · simp [World.setCell, Array.getElem?_modify, hc]
  · have hb : ad p + i < cur.size := by rw [k1]; unfold ad; omega
    rw [Array.getElem?_setIfInBounds]
    by_cases e : ad p + i = ad q + j
    · obtain ⟨rfl, rfl⟩ := ad_inj h1 q1 hi hj e
      rw [if_pos rfl, if_pos hb, upd_same, hu]
    · rw [if_neg e, k4 q j q1 q2 hj]
      by_cases e2 : q = p
      · subst e2
        rw [upd_same, hy j hj (by rintro rfl; exact e rfl)]
      · rw [upd_ne nd y e2]
def rows (nd : Nat → Nd) (n : Nat) : List Nd := (List.range n).map fun j => nd (j + 1)
def nd0 : Nd := ⟨⟨0, 0⟩, 0, 0, 0, 0⟩
theorem rows_len : (rows nd n).length = n := by simp [rows]
theorem rows_at {j : Nat} (h : j < n) : (rows nd n).getD j nd0 = nd (j + 1) := by simp [rows, List.getD, h]
theorem rows_ext (e : ∀ p, 1 ≤ p → p ≤ n → nd p = nd' p) : rows nd n = rows nd' n := List.map_congr_left fun j hj => e (j + 1) (by omega) (by have := List.mem_range.1 hj; omega)
theorem rows_succ (n : Nat) (nd : Nat → Nd) : rows nd (n + 1) = rows nd n ++ [nd (n + 1)] := by simp [rows, List.range_succ]
theorem Nds.ow (h : Nds w b c n nd) : Ow w 0 103 6 nc (.slice (some ⟨b, 0, none⟩) n c) (rows nd n) := by
  obtain ⟨cur, hc, k1, k2, k3, k4⟩ := h
  unfold Ow
  rw [rows_len]
  refine ⟨by rw [flat_len, rows_len], .inr ⟨b, c, cur, rfl, Nat.zero_le _, hc, k2, k3, k1, ?_⟩⟩
  refine List.ext_getElem? fun i => ?_
  by_cases hi : i < n * 6
  · have e : i = i / 6 * 6 + i % 6 := by omega
    have hq : i / 6 < (rows nd n).length := by rw [rows_len]; omega
    have h1 := k4 (i / 6 + 1) (i % 6) (by omega) (by omega) (by omega)
    have h2 := flat_at (f := nc) (d := nd0) (n := 6) (rows nd n) hq (Nat.mod_lt i (by omega))
    rw [rows_at (by omega)] at h2
    rw [List.getElem?_take_of_lt hi, Array.getElem?_toList]
    have e2 : ad (i / 6 + 1) + i % 6 = i := by unfold ad; omega
    rw [e2] at h1
    rw [h1, ← h2, ← e]
  · rw [List.getElem?_eq_none (by rw [List.length_take, Array.length_toList]; omega), List.getElem?_eq_none (by rw [flat_len, rows_len]; omega)]
theorem Ow.nds {v : Value} (h : Ow w 0 103 6 nc v (rows nd n)) (hn : 1 ≤ n) : ∃ b c, v = .slice (some ⟨b, 0, none⟩) n c ∧ Nds w b c n nd := by
  rcases h.2 with ⟨rfl, h0⟩ | ⟨b, c, cur, rfl, _, hc, h1, h2, h3, h4⟩
  · rw [rows_len] at h0
    omega
  · rw [rows_len] at h1 h4 ⊢
    refine ⟨b, c, rfl, cur, hc, h3, h1, h2, fun p i p1 p2 hi => ?_⟩
    have h5 := flat_at (f := nc) (d := nd0) (n := 6) (rows nd n) (j := p - 1) (i := i) (by rw [rows_len]; omega) hi
    rw [rows_at (by omega), show p - 1 + 1 = p by omega, ← h4, List.getElem?_take_of_lt (by omega), Array.getElem?_toList] at h5
    exact h5

/-- A shelf with nodes. -/
structure Sh (w : World) (g b c n : Nat) (nd : Nat → Nd) (top : Nat) : Prop where
  hd : Blk w g 97 #[.slice (some ⟨b, 0, none⟩) n c, .int .i64 (top : Int)]
  row : Nds w b c n nd
  ne : b ≠ g
  small : n ≤ 1000000000
theorem Sh.kp (h : Sh w g b c n nd top) (k : Kp S w w') (h1 : ¬ S g) (h2 : ¬ S b) : Sh w' g b c n nd top := ⟨h.hd.kp k h1, h.row.kp k h2, h.ne, h.small⟩
theorem Sh.kp0 (h : Sh w g b c n nd top) (k : Kp No w w') : Sh w' g b c n nd top := h.kp k id id
theorem Sh.head (h : Sh w g b c n nd top) : w.cell? ⟨g, 0, none⟩ = some (.slice (some ⟨b, 0, none⟩) n c) ∧ w.cell? ⟨g, 1, none⟩ = some (.int .i64 (top : Int)) := ⟨h.hd.cell 0, h.hd.cell 1⟩
theorem Sh.put (h : Sh w g b c n nd top) {p i : Nat} (h1 : 1 ≤ p) (h2 : p ≤ n) (hi : i < 6) (y : Nd) {u : Value} (hu : nc y i = u) (hy : ∀ j, j < 6 → j ≠ i → nc y j = nc (nd p) j) : Sh (w.setCell ⟨b, ad p + i, none⟩ u) g b c n (upd nd p y) top :=
  ⟨h.hd.kp (Kp.set1 _ _ _ _) (fun e => h.ne e.symm), h.row.put h1 h2 hi y hu hy, h.ne, h.small⟩
theorem Sh.lo (h : Sh w g b c n nd top) {p : Nat} (h1 : 1 ≤ p) (h2 : p ≤ n) : w.cell? ⟨b, ad p + 2, none⟩ = some (.int .i64 ((nd p).lo : Int)) := h.row.cell h1 h2 (by omega)
theorem Sh.hi (h : Sh w g b c n nd top) {p : Nat} (h1 : 1 ≤ p) (h2 : p ≤ n) : w.cell? ⟨b, ad p + 2 + 1, none⟩ = some (.int .i64 ((nd p).hi : Int)) := h.row.cell (i := 3) h1 h2 (by omega)
theorem Sh.many (h : Sh w g b c n nd top) {p : Nat} (h1 : 1 ≤ p) (h2 : p ≤ n) : w.cell? ⟨b, ad p + 4, none⟩ = some (.int .i64 ((nd p).many : Int)) := h.row.cell h1 h2 (by omega)
theorem Sh.deep (h : Sh w g b c n nd top) {p : Nat} (h1 : 1 ≤ p) (h2 : p ≤ n) : w.cell? ⟨b, ad p + 5, none⟩ = some (.int .i64 ((nd p).deep : Int)) := h.row.cell h1 h2 (by omega)
theorem Sh.key (h : Sh w g b c n nd top) {p : Nat} (h1 : 1 ≤ p) (h2 : p ≤ n) : w.cell? ⟨b, ad p, none⟩ = some (.int .i64 (nd p).it.key) := h.row.cell (i := 0) h1 h2 (by omega)
theorem Sh.id (h : Sh w g b c n nd top) {p : Nat} (h1 : 1 ≤ p) (h2 : p ≤ n) : w.cell? ⟨b, ad p + 1, none⟩ = some (.int .i64 (nd p).it.id) := h.row.cell h1 h2 (by omega)

theorem node_any (h : Sh w g b c n nd top) (p : Nat) (h1 : 1 ≤ p) (h2 : p ≤ n) :
    Calls Try.prog 55 #[.pointer (some ⟨g, 0, none⟩), .int .i64 (p : Int)] w fun e w' => e = .returned (.pointer (some ⟨b, ad p, none⟩)) ∧ w = w' := by
  obtain ⟨c0, c1⟩ := h.head
  have hs := h.small
  have e1 : IntKind.i64.wrap ((p : Int) - 1) = (p : Int) - 1 := wrapI ⟨by omega, by omega⟩
  have HA := hid (show ad p = (p - 1) * 6 from rfl)
  go_enter Try.func55, Try.ntmps55
  go_wp2
  go_ret
  exact ⟨rfl, rfl⟩

theorem nz {p : Nat} (h : 1 ≤ p) : ((p : Int) == 0) = false := by rw [beq_eq_false_iff_ne]; omega
theorem nz' {p : Nat} (h : 1 ≤ p) : ((p : Int) != 0) = true := by rw [bne_iff_ne]; omega

theorem many_any (h : Sh w g b c n nd top) {t : BT} (hT : Tr nd t) (hI : In n t.pls) :
    Calls Try.prog 83 #[.pointer (some ⟨g, 0, none⟩), .int .i64 (t.root : Int)] w fun e w' => e = .returned (.int .i64 (t.sz : Int)) ∧ w = w' := by
  cases t with
  | nil =>
    go_enter Try.func83, Try.ntmps83
    go_wp2
    go_ret
    exact ⟨rfl, rfl⟩
  | node p l r =>
    obtain ⟨p1, p2⟩ := hI p (by simp [BT.pls])
    have hm := h.many p1 p2
    rw [hT.2.2.1, ← BT.sz_node p] at hm
    have hb := nz p1
    go_enter Try.func83, Try.ntmps83
    simp only [BT.root]
    go_wp2_with fail
    refine (node_any h p p1 p2).mono ?_
    rintro e w' ⟨rfl, rfl⟩
    go_wp2_with fail
    go_ret
    exact ⟨rfl, rfl⟩

theorem deep_any (h : Sh w g b c n nd top) {t : BT} (hT : Tr nd t) (hI : In n t.pls) :
    Calls Try.prog 61 #[.pointer (some ⟨g, 0, none⟩), .int .i64 (t.root : Int)] w fun e w' => e = .returned (.int .i64 (t.ht : Int)) ∧ w = w' := by
  cases t with
  | nil =>
    go_enter Try.func61, Try.ntmps61
    go_wp2
    go_ret
    exact ⟨rfl, rfl⟩
  | node p l r =>
    obtain ⟨p1, p2⟩ := hI p (by simp [BT.pls])
    have hm := h.deep p1 p2
    rw [hT.2.2.2.1, show max l.ht r.ht + 1 = (BT.node p l r).ht from rfl] at hm
    have hb := nz p1
    go_enter Try.func61, Try.ntmps61
    simp only [BT.root]
    go_wp2_with fail
    refine (node_any h p p1 p2).mono ?_
    rintro e w' ⟨rfl, rfl⟩
    go_wp2_with fail
    go_ret
    exact ⟨rfl, rfl⟩

theorem ahead_any (h : Sh w g b c n nd top) {p : Nat} {l r : BT} (hT : Tr nd (.node p l r)) (hI : In n (BT.node p l r).pls) :
    Calls Try.prog 59 #[.pointer (some ⟨g, 0, none⟩), .pointer (some ⟨b, ad p, none⟩)] w fun e w' => e = .returned (.int .i64 (l.sz : Int)) ∧ w = w' := by
  obtain ⟨p1, p2⟩ := hI p (by simp [BT.pls])
  have hm := h.lo p1 p2
  rw [hT.1] at hm
  go_enter Try.func59, Try.ntmps59
  go_wp2_with fail
  refine (many_any h hT.2.2.2.2.1 (fun q hq => hI q (by simp [BT.pls, hq]))).mono ?_
  rintro e w' ⟨rfl, rfl⟩
  go_wp2_with fail
  go_ret
  exact ⟨rfl, rfl⟩

/-- An item, by value. -/
def itv (x : It) : Value := .agg #[.int .i64 x.key, .int .i64 x.id]

theorem less_any (x y : It) (w : World) :
    Calls Try.prog 60 #[.agg #[.int .i64 x.key, .int .i64 x.id], .agg #[.int .i64 y.key, .int .i64 y.id]] w fun e w' => e = .returned (.bool (ltB x y)) ∧ Kp No w w' := by
  by_cases h1 : x.key < y.key
  · have H := hid (show ltB x y = true by unfold ltB; simp [h1])
    go_enter Try.func60, Try.ntmps60
    go_wp2
    go_ret
    rw [H.out]
    exact ⟨rfl, ((Kp.refl No w).alloc _).alloc _⟩
  · have d1 := decide_eq_false h1
    by_cases h2 : x.key = y.key
    · have d2 : (x.key == y.key) = true := by simp [h2]
      have H := hid (show ltB x y = decide (x.id < y.id) by unfold ltB; rw [d1]; simp [h2])
      clear h2
      go_enter Try.func60, Try.ntmps60
      go_wp2
      go_ret
      rw [H.out]
      exact ⟨rfl, ((Kp.refl No w).alloc _).alloc _⟩
    · have d2 : (x.key == y.key) = false := by simp [h2]
      have H := hid (show ltB x y = false by unfold ltB; rw [d1]; simp [h2])
      go_enter Try.func60, Try.ntmps60
      go_wp2
      go_ret
      rw [H.out]
      exact ⟨rfl, ((Kp.refl No w).alloc _).alloc _⟩
end
end Go.Proofs.Ytpbnmfoecmhnnaa
