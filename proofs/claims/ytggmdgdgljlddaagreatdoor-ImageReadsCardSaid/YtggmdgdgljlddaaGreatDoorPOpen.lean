/-
  What comes in: slices of sections, with how many bytes each body may have.
-/
import Derived.Test.YtggmdgdgljlddaaGreatDoorPLaw
import Derived.SizedLaws
import Derived.OpenShut
import Derived.Deep.Slices
import Derived.Lib.SmallJoins
namespace Go.Proofs.YtggmdgdgljlddaaGreatDoor
open Go.ChangeShapes Go.WideShapes Go.RowKit Go.Joins Go.Deep

section
variable {H : Type} {enc : TypeId × Value → H} {P : Program} {w : World} {base : Nat} {held : Bool} {t e : TypeId}
theorem weightsAll_mem : ∀ {l : List (DataW H)} {d : DataW H}, d ∈ l → ∀ n ∈ d.weights P e, n ∈ DataW.weightsAll P e l
  | d' :: r, d, hd, n, hn => by
    simp only [DataW.weightsAll, List.mem_append]
    rcases List.mem_cons.1 hd with rfl | h
    · exact .inl hn
    · exact .inr (weightsAll_mem h n hn)
theorem trod_int64 {fuel : Nat} {c : Value} {y : DataW H × List MemPlace} (ht : P.underlying t = some (.int .i64)) (h : DataW.trod enc P w base (fun _ => true) held fuel t [c] = some y) : ∃ x : Int, c = .int .i64 x ∧ I64 x := by
  obtain ⟨x, e0, _, wx⟩ := DataW.trod_int ht h
  simp at e0
  exact ⟨x, e0, bounds_i64 wx⟩
theorem trod_bytesW {fuel : Nat} {c : Value} {y : DataW H × List MemPlace} (ht : P.underlying t = some (.slice e)) (he : P.underlying e = some (.int .u8)) (hc : P.cellsOf e = 1) (h : DataW.trod enc P w base (fun _ => true) held fuel t [c] = some y) :
    ∃ xs, Byt w Anyb c xs ∧ ∀ N, (∀ n ∈ y.1.weights P t, n ≤ N) → xs.length * P.bytesOf e ≤ N := by
  rcases open_ints ht he hc h with ⟨hcs, _⟩ | ⟨x, l, cp, zs, hcs, _, hl, hm, hz, hy, hcell, hwz⟩
  · simp at hcs
    subst hcs
    exact ⟨[], Byt.nil w Anyb, fun N _ => by simp⟩
  · simp at hcs
    subst hcs
    have hlz : l ≤ zs.length := by rw [hz]; split <;> omega
    have hlen : (zs.take l).length = l := by simp; omega
    refine ⟨zs.take l, ⟨some x, cp, by rw [hlen], by omega, hm, fun n hn => bounds_u8 (hwz n (List.mem_of_mem_take hn)), fun h0 => ?_⟩, fun N hN => ?_⟩
    · rw [hlen] at h0 ⊢
      obtain ⟨b, o, spot⟩ := x
      have h1 := hcell 0 (by omega)
      have hs : spot = none := by simpa [Addr.add] using World.cell?_spot h1
      subst hs
      refine ⟨b, o, rfl, by simpa [Addr.add] using World.block_lt_of_cell? w _ h1, trivial, fun j hj => ?_⟩
      have ha : (⟨b, o, none⟩ : Addr).add j = ⟨b, o + j, none⟩ := by unfold Addr.add; split <;> simp_all
      rw [← ha, hcell j (by omega)]
      simp [List.getD, hj]
    · have h1 := hN (((zs.take l).length + (zs.drop l).length) * P.bytesOf e) (by
        rw [hy]
        simp [DataW.weights, ht, lits])
      refine Nat.le_trans (Nat.mul_le_mul_right _ ?_) h1
      omega

/-- A section that came in: its cells, and how many bytes its body may have. -/
theorem cells_sec {f0 f1 : Field} {e8 : TypeId} {fuel : Nat} {cs : List Value} {x : DataW H × List MemPlace} (hs : P.underlying e = some (.struct #[f0, f1])) (hone : oneCellFields P #[f0, f1] = true) (hC : P.cellsOf e = 2)
    (h0 : P.underlying f0.type = some (.int .i64)) (h1 : P.underlying f1.type = some (.slice e8)) (u8 : P.underlying e8 = some (.int .u8)) (c8 : P.cellsOf e8 = 1)
    (h : DataW.trod enc P w base (fun _ => true) held fuel e cs = some x) : ∃ s : Sv, cs = [pc s 0, pc s 1] ∧ SvOk w Anyb s ∧ ∀ N, (∀ n ∈ x.1.weights P e, n ≤ N) → s.bl.length * P.bytesOf e8 ≤ N := by
  obtain ⟨ys, n, _, hx, hl, hyl, hf⟩ := DataW.trod_struct hs h
  rw [hC] at hl
  match cs, hl with
  | [a, b], _ =>
    match ys, hyl with
    | [y0, y1], _ =>
      obtain ⟨o0, k0⟩ := hone_of hone 0 f0 rfl
      obtain ⟨o1, k1⟩ := hone_of hone 1 f1 rfl
      have g0 := hf 0 f0 rfl
      have g1 := hf 1 f1 rfl
      rw [o0, k0] at g0
      rw [o1, k1] at g1
      obtain ⟨x0, rfl, i0⟩ := trod_int64 h0 (by simpa using g0)
      obtain ⟨xs, b1, hN1⟩ := trod_bytesW (c := b) h1 u8 c8 (by simpa using g1)
      obtain ⟨A, c, rfl, hrest⟩ := b1
      refine ⟨⟨x0, A, c, xs⟩, rfl, ⟨i0, ⟨A, c, rfl, hrest⟩⟩, fun N hN => hN1 N fun n hn => hN n ?_⟩
      rw [hx]
      simp only [DataW.weights, hs, List.map_cons, List.map_nil, DataW.weightsEach, List.mem_append]
      exact .inr (.inl hn)

/-- A slice of structs that came in, each of n cells, and what is known of each. -/
theorem open_rowsW {α : Type} {n : Nat} {f : α → Nat → Value} {d : α} {R : α → Prop} {N fuel : Nat} {A : Option Addr} {len cap : Nat} {x : DataW H × List MemPlace} (ht : P.underlying t = some (.slice e)) (hn : 0 < n) (hC : P.cellsOf e = n) (hd : R d)
    (hel : ∀ (fuel : Nat) (cs : List Value) (y : DataW H × List MemPlace), DataW.trod enc P w base (fun _ => true) held fuel e cs = some y → (∀ m ∈ y.1.weights P e, m ≤ N) → ∃ q : α, R q ∧ ∀ j, j < n → cs[j]? = some (f q j))
    (hN : ∀ m ∈ x.1.weights P t, m ≤ N)
    (h : DataW.trod enc P w base (fun _ => true) held fuel t [.slice A len cap] = some x) : ∃ xs : List α, Rw n f d w Anyb (.slice A len cap) xs ∧ ∀ q ∈ xs, R q := by
  rcases open_slice ht h with ⟨hcs, _⟩ | ⟨a, l, c, m, k, D, Pl, hcs, _, hl, hm, hmm, hxx, hi⟩
  · simp at hcs
    obtain ⟨rfl, rfl, rfl⟩ := hcs
    exact ⟨[], Rw.nil _ _ _ w Anyb, fun q hq => by simp at hq⟩
  · simp at hcs
    obtain ⟨rfl, rfl, rfl⟩ := hcs
    have hlm : len ≤ m := by rw [hmm]; split <;> omega
    have hx : ∀ i : Nat, ∃ q : α, R q ∧ (i < len → ∀ j, j < n → w.cell? (a.add (i * n + j)) = some (f q j)) := by
      intro i
      by_cases hlt : i < len
      · obtain ⟨cs', hc, ht'⟩ := hi i (by omega)
        obtain ⟨q, hR, hq⟩ := hel _ _ _ ht' fun m' hm' => hN m' (by
          rw [hxx]
          simp only [DataW.weights, ht, List.mem_cons, List.mem_append]
          exact .inr (.inl (weightsAll_mem (List.mem_map.2 ⟨i, List.mem_range.2 hlt, rfl⟩) m' hm')))
        rw [hC] at hc
        obtain ⟨_, _, hat⟩ := World.cells?_some hc
        refine ⟨q, hR, fun _ j hj => ?_⟩
        have := hat j hj
        rw [Go.Deep.add_add] at this
        rw [this]
        have h1 := hq j hj
        simp [h1]
      · exact ⟨d, hd, fun h => absurd h hlt⟩
    refine ⟨(List.range len).map fun i => (hx i).choose, ⟨some a, cap, by simp, by simpa using hl, hm, fun h0 => ?_⟩, fun q hq => ?_⟩
    · have hpos : 0 < len := by simpa using h0
      obtain ⟨b, o, spot⟩ := a
      have hc0 := (hx 0).choose_spec.2 hpos 0 hn
      have hsp : spot = none := by simpa [Addr.add] using World.cell?_spot hc0
      subst hsp
      refine ⟨b, o, rfl, by simpa [Addr.add] using World.block_lt_of_cell? w _ hc0, trivial, fun j i hj hi3 => ?_⟩
      have hj' : j < len := by simpa using hj
      have ha : (⟨b, o, none⟩ : Addr).add (j * n + i) = ⟨b, o + (j * n + i), none⟩ := by unfold Addr.add; split <;> simp_all
      rw [← ha, (hx j).choose_spec.2 hj' i hi3]
      simp [List.getD, hj']
    · obtain ⟨i, _, rfl⟩ := List.mem_map.1 hq
      exact (hx i).choose_spec.1
theorem le_sum_of_mem : ∀ {l : List Nat}, ∀ n ∈ l, n ≤ l.sum
  | a :: r, n, h => by
    rw [List.sum_cons]
    rcases List.mem_cons.1 h with rfl | h
    · omega
    · have := le_sum_of_mem n h
      omega
end

section
variable {H : Type} {enc : TypeId × Value → H} {w : World} {base : Nat} {held : Bool}
theorem byt8 : Tryz.prog.bytesOf 5 = 1 := by kernel_rfl
set_option maxRecDepth 100000 in
theorem open_secs_w {N fuel : Nat} {A : Option Addr} {len cap : Nat} {x : DataW H × List MemPlace} (h : DataW.trod enc Tryz.prog w base (fun _ => true) held fuel 34 [.slice A len cap] = some x) (hN : ∀ m ∈ x.1.weights Tryz.prog 34, m ≤ N) :
    ∃ ss : List Sv, Ps w Anyb (.slice A len cap) ss ∧ ∀ s ∈ ss, s.bl.length ≤ N := by
  obtain ⟨ss, hr, hq⟩ := open_rowsW (n := 2) (f := pc) (d := sv0) (R := fun s => SvOk w Anyb s ∧ s.bl.length ≤ N) (N := N) Tryz.underlying34 (by omega) (by kernel_rfl) ⟨⟨by show I64 0; unfold I64; omega, Byt.nil w Anyb⟩, by show (0 : Nat) ≤ N; omega⟩ (fun fuel cs y hy hyN => by
    obtain ⟨s, rfl, hok, hb⟩ := cells_sec (P := Tryz.prog) Tryz.underlying36 (by kernel_rfl) (by kernel_rfl) Tryz.underlying3 Tryz.underlying28 Tryz.underlying5 (by kernel_rfl) hy
    have h1 := hb N hyN
    rw [byt8, Nat.mul_one] at h1
    refine ⟨s, ⟨hok, h1⟩, fun j hj => ?_⟩
    match j, hj with
    | 0, _ => rfl
    | 1, _ => rfl) hN h
  exact ⟨ss, ⟨hr, fun s hs => (hq s hs).1⟩, fun s hs => (hq s hs).2⟩
theorem open_secs {fuel : Nat} {A : Option Addr} {len cap : Nat} {x : DataW H × List MemPlace} (h : DataW.trod enc Tryz.prog w base (fun _ => true) held fuel 34 [.slice A len cap] = some x) :
    ∃ ss : List Sv, Ps w Anyb (.slice A len cap) ss := by
  obtain ⟨ss, hp, _⟩ := open_secs_w h le_sum_of_mem
  exact ⟨ss, hp⟩
end
end Go.Proofs.YtggmdgdgljlddaaGreatDoor
