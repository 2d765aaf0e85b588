/-
  A disk in memory; contracts of package disk: dhold, told, Len, has, off, call, New.
-/
import Derived.Test.YtgfkbkonelphaaaGreatDoorDMem
import Derived.Test.YtgfkbkonelphaaaGreatDoorTail
import Derived.Test.YtgfkbkonelphaaaGreatDoorChecked
namespace Go.Proofs.YtgfkbkonelphaaaGreatDoor
open Go.RowKit

theorem dK : KM Tryz.prog 60 3 85 sev senc zs where
  und := by kernel_rfl
  key := by kernel_rfl
  zero := by
    have h : (Tryz.prog.info? 85).map (fun i => (i.zero, i.size)) = some (some (sev zs), 64) := by kernel_rfl
    intro w
    cases hq : Tryz.prog.info? 85 with
    | none => simp [hq] at h
    | some i =>
      simp only [hq, Option.map_some, Option.some.injEq, Prod.mk.injEq] at h
      simp [zeroValue, typeInfo, hq, h.1]
  inj := senc_inj
  evj := sev_inj
theorem dU : Tryz.prog.underlying 85 = some (.array 64 5) := by kernel_rfl
theorem dI : (Tryz.prog.info? 85).map (·.size) = some 64 := by kernel_rfl
theorem dS {l : List Int} (h : l.length = 64) : (Tryz.prog.info? 85).map (·.size) = some (sc l).length := by rw [sc_len, h]; exact dI
theorem dS' {l : List Int} (h : l.length = 64) : (Tryz.prog.info? 85).map (·.size) = some (sc l).toArray.size := by rw [List.size_toArray]; exact dS h

/-- A disk as a plain thing: what is kept; what waits; whether it is armed, and how many calls it takes still. -/
structure Ds where
  k : List (List Int)
  c : Int → Option (List Int)
  armed : Bool
  left : Int

/-- How many of the first numbers have something. -/
def cnt (c : Int → Option (List Int)) : Nat → Nat
  | 0 => 0
  | n + 1 => cnt c n + if (c n).isSome then 1 else 0

theorem cnt_le (c : Int → Option (List Int)) (n : Nat) : cnt c n ≤ n := by
  induction n with
  | zero => exact Nat.le_refl _
  | succ n ih =>
    unfold cnt
    split <;> omega
structure DOk (s : Ds) : Prop where
  len : s.k.length ≤ 512
  sec : ∀ l ∈ s.k, Sec l
  key : ∀ i l, s.c i = some l → 0 ≤ i ∧ i < s.k.length ∧ Sec l
  l0 : 0 ≤ s.left
  l1 : s.left ≤ 1048576

/-- What is read of a sector. -/
def look (s : Ds) (i : Nat) : List Int := (s.c (i : Int)).getD (s.k.getD i [])
theorem look_sec {s : Ds} (h : DOk s) {i : Nat} (hi : i < s.k.length) : Sec (look s i) := by
  unfold look
  cases hc : s.c (i : Int) with
  | some l => exact (h.key _ _ hc).2.2
  | none =>
    refine h.sec _ ?_
    simp [List.getD, hi]
/-- A disk's head at g; what is kept at b, its map at m. -/
structure Dk (w : World) (g b m : Nat) (s : Ds) : Prop where
  hd : Blk w g 62 #[.slice (some ⟨b, 0, none⟩) s.k.length s.k.length, .map (some m), .bool s.armed, .int .i64 s.left]
  kt : Kt 85 w b s.k
  mp : Mk Tryz.prog 3 sev senc w m s.c (cnt s.c s.k.length)
  gb : g ≠ b
  gm : g ≠ m
  bm : b ≠ m
  ok : DOk s

/-- All its blocks. -/
def DB (g b m : Nat) : Nat → Prop := fun i => i = g ∨ i = b ∨ i = m

section
variable {w w' : World} {g b m : Nat} {s : Ds} {S : Nat → Prop}
theorem Dk.kp (h : Dk w g b m s) (k : Kp S w w') (h1 : ¬ S g) (h2 : ¬ S b) (h3 : ¬ S m) : Dk w' g b m s := ⟨h.hd.kp k h1, h.kt.kp k h2, h.mp.kp k h3, h.gb, h.gm, h.bm, h.ok⟩
theorem Dk.kp0 (h : Dk w g b m s) (k : Kp No w w') : Dk w' g b m s := h.kp k (fun h => h) (fun h => h) fun h => h
theorem Dk.lts (h : Dk w g b m s) : g < w.heap.size ∧ b < w.heap.size ∧ m < w.heap.size := ⟨h.hd.lt, h.kt.lt, h.mp.lt⟩

def dhold (n most : Int) : Int := min (max n 0) most
theorem dhold_any (n most : Int) (w : World) : Calls Tryz.prog 27 #[.int .i64 n, .int .i64 most] w fun e w' => e = .returned (.int .i64 (dhold n most)) ∧ w' = w := by
  go_enter Tryz.func27, Tryz.ntmps27
  go_wp2
  all_goals
    go_ret
    refine ⟨?_, rfl⟩
    simp
    unfold dhold
    omega

theorem len_any (h : Dk w g b m s) : Calls Tryz.prog 28 #[.pointer (some ⟨g, 0, none⟩)] w fun e w' => e = .returned (.int .i64 (s.k.length : Int)) ∧ w' = w := by
  have c0 := h.hd.cell 0
  simp at c0
  clear h
  go_enter Tryz.func28, Tryz.ntmps28
  go_wp2
  go_ret
  exact ⟨rfl, rfl⟩

/-- Is there such a sector? -/
def has (s : Ds) (i : Int) : Bool := decide (0 ≤ i) && decide (i < (s.k.length : Int))
theorem has_any (h : Dk w g b m s) (i : Int) : Calls Tryz.prog 45 #[.pointer (some ⟨g, 0, none⟩), .int .i64 i] w fun e w' => e = .returned (.bool (has s i)) ∧ w' = w := by
  unfold has
  by_cases h1 : 0 ≤ i
  · have d1 := decide_eq_true h1
    rw [d1]
    go_enter Tryz.func45, Tryz.ntmps45
    go_wp2_with ((with_reducible refine (len_any h).mono ?_); rintro e w' ⟨rfl, rfl⟩)
    go_ret
    exact ⟨by simp, rfl⟩
  · have d1 := decide_eq_false h1
    rw [d1]
    go_enter Tryz.func45, Tryz.ntmps45
    go_wp2
    go_ret
    exact ⟨by simp, rfl⟩

/-- Is it off? -/
def off (s : Ds) : Bool := s.armed && (s.left == 0)
theorem off_any (h : Dk w g b m s) : Calls Tryz.prog 62 #[.pointer (some ⟨g, 0, none⟩)] w fun e w' => e = .returned (.bool (off s)) ∧ w' = w := by
  unfold off
  have c2 := h.hd.cell 2
  have c3 := h.hd.cell 3
  simp at c2 c3
  clear h
  cases ha : s.armed
  · rw [ha] at c2
    go_enter Tryz.func62, Tryz.ntmps62
    go_wp2
    go_ret
    exact ⟨by simp, rfl⟩
  · rw [ha] at c2
    go_enter Tryz.func62, Tryz.ntmps62
    go_wp2
    go_ret
    exact ⟨by simp, rfl⟩

/-- Behind a call that counts. -/
def calld (s : Ds) : Ds := { s with left := max (s.left - 1) 0 }
theorem call_fin (h : Dk w g b m s) {x : Int} (hx : x = max (s.left - 1) 0) : Kp (Only g) w (w.setCell ⟨g, 3, none⟩ (.int .i64 x)) ∧ Dk (w.setCell ⟨g, 3, none⟩ (.int .i64 x)) g b m (calld s) ∧ (w.setCell ⟨g, 3, none⟩ (.int .i64 x)).heap.size = w.heap.size := by
  subst hx
  have k := Kp.set1 g 3 w (.int .i64 (max (s.left - 1) 0))
  refine ⟨k, ⟨?_, h.kt.kp k fun e => h.gb e.symm, h.mp.kp k fun e => h.gm e.symm, h.gb, h.gm, h.bm, ⟨h.ok.len, h.ok.sec, h.ok.key, ?_, ?_⟩⟩, by simp [World.setCell]⟩
  · have := h.hd.put 3 (.int .i64 (max (s.left - 1) 0))
    simpa [calld] using this
  · unfold calld
    simp only
    omega
  · have := h.ok.l1
    unfold calld
    simp only
    omega
theorem call_any (h : Dk w g b m s) : Calls Tryz.prog 72 #[.pointer (some ⟨g, 0, none⟩)] w fun e w' => e = .returned (.bool (off s)) ∧ Kp (Only g) w w' ∧ Dk w' g b m (calld s) ∧ w'.heap.size = w.heap.size := by
  have c3 := h.hd.cell 3
  have f3 := h.hd.frozen 3
  simp at c3
  have hw := wrapI (x := s.left - 1) (by have := h.ok.l0; have := h.ok.l1; unfold I64; omega)
  have O := hid h
  clear h
  go_enter Tryz.func72, Tryz.ntmps72
  go_wp2_with fail
  refine (off_any O.out).mono ?_
  rintro e w ⟨rfl, rfl⟩
  go_wp2
  all_goals
    go_ret
    exact ⟨rfl, call_fin O.out (by omega)⟩

/-- A sector's bytes, told: memory of their own. -/
theorem told_any {l : List Int} (hl : l.length = 64) (w : World) : Calls Tryz.prog 46 #[sev l] w fun e w' => e = .returned (.slice (some ⟨w.heap.size, 0, none⟩) 64 64) ∧ w' = w.alloc (.cells (sc l).toArray 85) := by
  unfold sev
  have hs : (sc l).toArray.size = 64 := by rw [List.size_toArray, sc_len, hl]
  go_enter Tryz.func46, Tryz.ntmps46
  go_wp2
  go_ret
  exact ⟨rfl, rfl⟩
end
end Go.Proofs.YtgfkbkonelphaaaGreatDoor
