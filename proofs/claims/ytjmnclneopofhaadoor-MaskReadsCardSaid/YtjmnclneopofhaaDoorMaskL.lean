/-
  The library's calls, by the shelf's contracts, in this program's numbers: Cut, Itoa of small numbers, Atoi of any text, Join.
-/
import Derived.Test.YtjmnclneopofhaaDoorShelf
import Derived.Test.YtjmnclneopofhaaDoorWords
import Derived.Lib.AtoiAllCases
import Derived.Laws.Strings
namespace Go.Proofs.YtjmnclneopofhaaDoor
open Go.RowKit Go.Shelf

/-- What the library's variables hold: some number, and two errors that are not nil. -/
def Env (w : World) : Prop := (∃ m, w.cell? ⟨0, 0, none⟩ = some (.int .i64 m)) ∧ (∃ tp p, w.cell? ⟨1, 0, none⟩ = some (.iface tp p)) ∧ ∃ tp p, w.cell? ⟨2, 0, none⟩ = some (.iface tp p)

theorem Env.kp0 {a w : World} (h : Env a) (k : Kp No a w) : Env w := by
  obtain ⟨⟨m, h1⟩, ⟨t2, p2, h2⟩, ⟨t3, p3, h3⟩⟩ := h
  exact ⟨⟨m, (k.cell (World.block_lt_of_cell? a _ h1) id).trans h1⟩, ⟨t2, p2, (k.cell (World.block_lt_of_cell? a _ h2) id).trans h2⟩, ⟨t3, p3, (k.cell (World.block_lt_of_cell? a _ h3) id).trans h3⟩⟩
theorem Kp.of_below {a w : World} (h : Below a.heap.size a w) : Kp No a w := ⟨h.os, h.tape, h.output, h.size, fun k hk _ => h.block k hk⟩

/-- A string of bytes. -/
def str (l : List UInt8) : ByteArray := ⟨l.toArray⟩
theorem str_list (l : List UInt8) : (str l).data.toList = l := rfl
theorem str_size (l : List UInt8) : (str l).size = l.length := rfl
theorem str_of (s : ByteArray) : str s.data.toList = s := rfl
theorem str_inj {a b : List UInt8} (h : str a = str b) : a = b := by rw [← str_list a, ← str_list b, h]

theorem str_toList (l : List UInt8) : (str l).toList = l := ByteArray.toList_eq (str l)
theorem str_beq (a b : List UInt8) : ((str a).toList == (str b).toList) = decide (a = b) := by
  rw [str_toList, str_toList]
  exact Bool.eq_iff_iff.2 (by simp)

theorem cut_any (t : List UInt8) (c : UInt8) (w : World) (ht : t.length < 4294967281) (E : Env w) :
    Calls Tryd.prog 40 #[.string (str t), .string ⟨#[c]⟩] w fun e w' => e = .returned (.tuple #[.string (str (Lib.cut t [c]).1), .string (str (Lib.cut t [c]).2.1), .bool (Lib.cut t [c]).2.2]) ∧ Kp No w w' := by
  obtain ⟨m, hm⟩ := E.1
  refine (Any.strings_Cut Tryd.lays145 (str t) ⟨#[c]⟩ m w ht hm).mono ?_
  rintro e w' ⟨rfl, n, rfl⟩
  exact ⟨rfl, (Kp.refl No w).drewN n⟩

theorem itoa_any (i : Nat) (hi : i < 100) (w : World) :
    Calls Tryd.prog 42 #[.int .i64 (i : Int)] w fun e w' => e = .returned (.string (str (Lib.decDigits i))) ∧ w = w' := by
  refine (Any.strconv_Itoa_small Tryd.lays171 i hi w).mono ?_
  rintro e w' ⟨rfl, rfl⟩
  exact ⟨rfl, rfl⟩

/-- What Atoi tells: the number that a text spells, and no error, or any other number, and an error. -/
def told (t : List UInt8) (v : Int) (ev : Value) : Prop := (Lib.atoiAll t = .ok v ∧ ev = .nilIface) ∨ ((∀ n, Lib.atoiAll t ≠ .ok n) ∧ ∃ tp p, ev = .iface tp p)

theorem atoi_any (t : List UInt8) (w : World) (ht : t.length < 4294967281) (E : Env w) :
    Calls Tryd.prog 47 #[.string (str t)] w fun e w' => ∃ v ev, e = .returned (.tuple #[.int .i64 v, ev]) ∧ told t v ev ∧ Kp No w w' := by
  have hsz : (str t).size = t.length := rfl
  cases h : Lib.atoiAll t
  · rename_i v
    refine (Any.strconv_Atoi_ok Tryd.laysC172 (str t) (by omega) v h w).mono ?_
    rintro e w' ⟨rfl, rfl | ⟨b, rfl⟩⟩
    · exact ⟨v, _, rfl, .inl ⟨h, rfl⟩, Kp.refl _ _⟩
    · exact ⟨v, _, rfl, .inl ⟨h, rfl⟩, Kp.of_below (Lib.bytesWorld_below _ _ _)⟩
  · obtain ⟨tp, p, hv⟩ := E.2.1
    refine (Any.strconv_Atoi_syntax Tryd.laysC172 (str t) (by omega) h _ w hv (.inr ⟨_, _, rfl⟩)).mono ?_
    rintro e w' ⟨N, rfl, _, _, hb⟩
    exact ⟨0, _, rfl, .inr ⟨fun n hn => (by rw [h] at hn; cases hn), _, _, rfl⟩, Kp.of_below hb⟩
  · obtain ⟨tp, p, hv⟩ := E.2.2
    refine (Any.strconv_Atoi_range Tryd.laysC172 (str t) (by omega) h _ w hv (.inr ⟨_, _, rfl⟩)).mono ?_
    rintro e w' ⟨N, rfl, _, _, hb⟩
    exact ⟨_, _, rfl, .inr ⟨fun n hn => (by rw [h] at hn; cases hn), _, _, rfl⟩, Kp.of_below hb⟩

theorem join_any (bk o c : Nat) (xs : List (List UInt8)) (sep : UInt8) (w : World) (hcells : ∀ (j : Nat) x, xs[j]? = some x → w.cell? ⟨bk, o + j, none⟩ = some (.string (str x))) (hbk : bk < w.heap.size)
    (hN : xs.length ≤ 100) (hcap : xs.length ≤ c) (hlen : (Lib.join xs [sep]).length ≤ 100000) :
    Calls Tryd.prog 37 #[.slice (some ⟨bk, o, none⟩) xs.length c, .string ⟨#[sep]⟩] w fun e w' => e = .returned (.string (str (Lib.join xs [sep]))) ∧ Kp No w w' := by
  have hm : (xs.map str).map (·.data.toList) = xs := by
    rw [List.map_map]
    exact List.map_id'' (fun x => rfl) xs
  have h := Any.strings_Join Tryd.lays156 Tryd.Builder_Extra_156 bk o c (xs.map str) ⟨#[sep]⟩ w (fun j x hx => by
    rw [List.getElem?_map] at hx
    cases hy : xs[j]? with
    | none => rw [hy] at hx; cases hx
    | some y =>
      rw [hy] at hx
      cases hx
      exact hcells j y hy) hbk (by rw [List.length_map]; omega) (by rw [List.length_map]; exact hcap) (by rw [hm]; exact Nat.le_trans hlen (by omega))
  rw [List.length_map, hm] at h
  refine h.mono ?_
  rintro e w' ⟨rfl, hb⟩
  exact ⟨rfl, Kp.of_below hb⟩
end Go.Proofs.YtjmnclneopofhaaDoor
