/-
  SlM SlN: texts laid into one.
-/
import Derived.Test.YtgfkbkonelphaaaGreatDoorPWin

/-
  Plain facts: a store on sectors: heads, slots, which head counts, what is found. Nothing of Go is named here. 'V i': the sixty-four bytes that are read of sector i; h: how many sectors a slot has.
-/
namespace Go.Proofs.YtgfkbkonelphaaaGreatDoor

def zsec : List Int := List.replicate 64 0
/-- A head's first bytes, a head, its sector. -/
def hcore (age : Nat) (has : Bool) (img : List Int) : List Int := [68, 80, 90, 83] ++ dg (age : Int) 8 ++ [if has then 1 else 0] ++ dg (img.length : Int) 4 ++ dg ((if has then ck img else 0 : Nat) : Int) 4
def hhead (age : Nat) (has : Bool) (img : List Int) : List Int := hcore age has img ++ ck4 (hcore age has img)
def hsec (age : Nat) (has : Bool) (img : List Int) : List Int := hhead age has img ++ List.replicate 39 0
/-- A slot's bytes. -/
def slotB (V : Nat → List Int) (h k : Nat) : List Int := (List.range h).flatMap fun i => V (2 + k * h + i)
def fAge (l : List Int) : Int := num ((l.drop 4).take 8)
def fMany (l : List Int) : Int := num ((l.drop 13).take 4)
/-- The head in sector k, if it counts: age, whether there is an image, the image. -/
def hcnt (V : Nat → List Int) (h k : Nat) : Option (Nat × Bool × List Int) :=
  if fAge (V k) < 1 ∨ 1099511627776 < fAge (V k) ∨ fAge (V k) % 2 ≠ (k : Int) ∨ ((64 * h : Nat) : Int) < fMany (V k) ∨ 1 < (V k).getD 12 0 ∨ ((V k).getD 12 0 = 0 ∧ 0 < fMany (V k)) then none else
  if V k = hsec (fAge (V k)).toNat ((V k).getD 12 0 == 1) ((slotB V h k).take (fMany (V k)).toNat) then some ((fAge (V k)).toNat, (V k).getD 12 0 == 1, (slotB V h k).take (fMany (V k)).toNat) else none
/-- What is found. -/
def newer (a : Nat × Bool × List Int) : Option (Nat × Bool × List Int) → Nat × Bool × List Int
  | none => a
  | some b => if a.1 < b.1 then b else a
def opn (V : Nat → List Int) (h : Nat) : Nat × Bool × List Int := newer (newer (0, false, []) (hcnt V h 0)) (hcnt V h 1)

theorem hcore_len (age : Nat) (has : Bool) (img : List Int) : (hcore age has img).length = 21 := by simp [hcore, dg_len]
theorem hhead_len (age : Nat) (has : Bool) (img : List Int) : (hhead age has img).length = 25 := by rw [hhead, List.length_append, hcore_len, ck4_len]
theorem hsec_len (age : Nat) (has : Bool) (img : List Int) : (hsec age has img).length = 64 := by rw [hsec, List.length_append, hhead_len, List.length_replicate]
theorem hcore_bs (age : Nat) (has : Bool) (img : List Int) : Bs (hcore age has img) := by
  unfold hcore
  refine (((Bs.app ?_ (dg_bytes 8 _)).app ?_).app (dg_bytes 4 _)).app (dg_bytes 4 _)
  · intro x hx
    have : x = 68 ∨ x = 80 ∨ x = 90 ∨ x = 83 := by simpa using hx
    omega
  · intro x hx
    rw [List.mem_singleton.1 hx]
    split <;> omega
theorem hhead_bs (age : Nat) (has : Bool) (img : List Int) : Bs (hhead age has img) := (hcore_bs age has img).app (ck4_bs _)
theorem hsec_bs (age : Nat) (has : Bool) (img : List Int) : Bs (hsec age has img) := (hhead_bs age has img).app fun x hx => by rw [List.eq_of_mem_replicate hx]; omega
theorem num_dgn {n k : Nat} (h : (n : Int) < pw k) : num (dg (n : Int) k) = (n : Int) := by
  rw [num_dg]
  exact Int.emod_eq_of_lt (by omega) h

section
variable {V V' : Nat → List Int} {h k a : Nat} {has : Bool} {img : List Int}
theorem f_hsec (ha : a ≤ 1099511627776) (hi : img.length ≤ 4294967295) : fAge (hsec a has img) = (a : Int) ∧ fMany (hsec a has img) = (img.length : Int) ∧ (hsec a has img).getD 12 0 = (if has then 1 else 0) := by
  obtain ⟨C, hC⟩ : ∃ C, ck4 (hcore a has img) = C := ⟨_, rfl⟩
  have e : hsec a has img = [68, 80, 90, 83] ++ (dg (a : Int) 8 ++ ([if has then 1 else 0] ++ (dg (img.length : Int) 4 ++ (dg ((if has then ck img else 0 : Nat) : Int) 4 ++ (C ++ List.replicate 39 0))))) := by
    unfold hsec hhead
    rw [hC, hcore]
    simp only [List.append_assoc]
  have l8 := dg_len 8 (a : Int)
  have l4 := dg_len 4 (img.length : Int)
  refine ⟨?_, ?_, ?_⟩
  · unfold fAge
    rw [e, List.drop_left' (by rfl), List.take_left' l8]
    exact num_dgn (by rw [show pw 8 = 18446744073709551616 from rfl]; omega)
  · unfold fMany
    rw [e, show 13 = 4 + (8 + 1) from rfl, ← List.drop_drop, List.drop_left' (by rfl), ← List.drop_drop, List.drop_left' l8, List.drop_left' (by rfl), List.take_left' l4]
    exact num_dgn (by rw [show pw 4 = 4294967296 from rfl]; omega)
  · rw [e, List.getD_eq_getElem?_getD, List.getElem?_append_right (by simp), List.getElem?_append_right (by simp [dg_len])]
    simp [dg_len]
theorem f_zsec : fAge zsec = 0 := by decide
theorem hcnt_zero (hz : V k = zsec) : hcnt V h k = none := by
  unfold hcnt
  rw [if_pos]
  left
  rw [hz, f_zsec]
  decide
/-- A head that is written so, with its image in its slot, counts. -/
theorem hcnt_is (hV : V k = hsec a has img) (h1 : 1 ≤ a) (ha : a ≤ 1099511627776) (hk : a % 2 = k) (hl : img.length ≤ 64 * h) (hh : 64 * h ≤ 4294967295) (hf : has = false → img = []) (hs : (slotB V h k).take img.length = img) : hcnt V h k = some (a, has, img) := by
  obtain ⟨e1, e2, e3⟩ := f_hsec (has := has) (img := img) ha (by omega)
  unfold hcnt
  rw [hV, e1, e2, e3]
  simp only [Int.toNat_natCast, hs]
  have eb : ((if has = true then (1 : Int) else 0) == 1) = has := by cases has <;> rfl
  rw [eb, if_neg, if_pos rfl]
  intro hc
  rcases hc with hc | hc | hc | hc | hc | ⟨hc, hd⟩
  · omega
  · omega
  · exact hc (by omega)
  · omega
  · cases has <;> simp at hc
  · cases has with
    | true => simp at hc
    | false => rw [hf rfl] at hd; simp at hd
/-- What counts is written so. -/
theorem hcnt_inv {b : Nat × Bool × List Int} (hc : hcnt V h k = some b) : V k = hsec b.1 b.2.1 b.2.2 ∧ 1 ≤ b.1 ∧ b.1 ≤ 1099511627776 ∧ b.1 % 2 = k ∧ (b.1 : Int) = fAge (V k) ∧ b.2.2 = (slotB V h k).take (fMany (V k)).toNat ∧ fMany (V k) ≤ 64 * h := by
  unfold hcnt at hc
  split at hc
  · cases hc
  rename_i hn
  split at hc
  · rename_i he
    cases hc
    refine ⟨he, ?_, ?_, ?_, ?_, rfl, ?_⟩
    · have : ¬ fAge (V k) < 1 := fun h => hn (.inl h)
      simp only
      omega
    · have : ¬ 1099511627776 < fAge (V k) := fun h => hn (.inr (.inl h))
      simp only
      omega
    · have h1 : ¬ fAge (V k) < 1 := fun h => hn (.inl h)
      have h2 : ¬ fAge (V k) % 2 ≠ (k : Int) := fun h => hn (.inr (.inr (.inl h)))
      simp only
      omega
    · have h1 : ¬ fAge (V k) < 1 := fun h => hn (.inl h)
      simp only
      omega
    · have h1 : ¬ ((64 * h : Nat) : Int) < fMany (V k) := fun hh => hn (.inr (.inr (.inr (.inl hh))))
      omega
  · cases hc
end
end Go.Proofs.YtgfkbkonelphaaaGreatDoor

/-
  Plain facts: what stands on sectors behind commits and deletes, and what is found then; a bit that is turned over. Nothing of Go is named here.
-/
namespace Go.Proofs.YtgfkbkonelphaaaGreatDoor

section
variable {V V' : Nat → List Int} {h k a : Nat} {has has' : Bool} {img img' : List Int}
theorem slotB_eq (hs : ∀ i, i < h → V' (2 + k * h + i) = V (2 + k * h + i)) : slotB V' h k = slotB V h k := by
  unfold slotB
  rw [List.flatMap_def, List.flatMap_def]
  congr 1
  exact List.map_congr_left fun i hi => hs i (List.mem_range.1 hi)
theorem hcnt_eq (h1 : V' k = V k) (h2 : slotB V' h k = slotB V h k) : hcnt V' h k = hcnt V h k := by
  unfold hcnt
  rw [h1, h2]

/-- The sector k has a head of that age, and its slot the image; or nothing, at the age 0. -/
def Sits (V : Nat → List Int) (h k a : Nat) (has : Bool) (img : List Int) : Prop :=
  (a = 0 ∧ V k = zsec ∧ has = false ∧ img = []) ∨
  (1 ≤ a ∧ a ≤ 1099511627776 ∧ a % 2 = k ∧ V k = hsec a has img ∧ (slotB V h k).take img.length = img ∧ img.length ≤ 64 * h ∧ (has = false → img = []))
theorem Sits.congr (hS : Sits V h k a has img) (h1 : V' k = V k) (h2 : slotB V' h k = slotB V h k) : Sits V' h k a has img := by
  unfold Sits at hS ⊢
  rw [h1, h2]
  exact hS
theorem Sits.cnt (hS : Sits V h k a has img) (hh : 64 * h ≤ 4294967295) : hcnt V h k = if a = 0 then none else some (a, has, img) := by
  rcases hS with ⟨h0, hz, _, _⟩ | ⟨h1, ha, hk, hV, hs, hl, hf⟩
  · rw [if_pos h0, hcnt_zero hz]
  · rw [if_neg (by omega), hcnt_is hV h1 ha hk hl hh hf hs]
/-- Whatever lies in the slots, the head in sector k is older, or none. -/
def Older (V : Nat → List Int) (k a : Nat) : Prop := V k = zsec ∨ ∃ a' q i, a' < a ∧ a' ≤ 1099511627776 ∧ i.length ≤ 4294967295 ∧ V k = hsec a' q i
theorem Older.congr (hO : Older V k a) (h1 : V' k = V k) : Older V' k a := by
  unfold Older at hO ⊢
  rw [h1]
  exact hO
theorem Older.cnt (hO : Older V k a) : ∀ b, hcnt V h k = some b → b.1 < a := by
  intro b hb
  obtain ⟨_, _, _, _, h5, _⟩ := hcnt_inv hb
  rcases hO with hz | ⟨a', q, i, h1, h2, h3, h4⟩
  · rw [hcnt_zero hz] at hb
    cases hb
  · rw [h4, (f_hsec h2 h3).1] at h5
    omega
theorem Sits.older (hS : Sits V h k (a - 1) has img) (h0 : 1 ≤ a) (hh : 64 * h ≤ 4294967295) : Older V k a := by
  rcases hS with ⟨_, hz, _⟩ | ⟨h1, ha, hk, hV, hs, hl, hf⟩
  · exact .inl hz
  · exact .inr ⟨a - 1, has, img, by omega, ha, by omega, hV⟩

/-- What is found where the newest head stands in its sector and the other one is older, or none. -/
theorem opn_two (h1 : hcnt V h (a % 2) = if a = 0 then none else some (a, has, img)) (h2 : ∀ b, hcnt V h ((a + 1) % 2) = some b → b.1 < a) (h0 : a = 0 → has = false ∧ img = []) : opn V h = (a, has, img) := by
  unfold opn
  by_cases ha : a = 0
  · subst ha
    obtain ⟨rfl, rfl⟩ := h0 rfl
    rw [if_pos rfl] at h1
    have e2 : hcnt V h 1 = none := by
      cases hc : hcnt V h 1 with
      | none => rfl
      | some b => exact absurd (h2 b hc) (by omega)
    rw [show hcnt V h 0 = none from h1, e2]
    rfl
  · rw [if_neg ha] at h1
    rcases (show a % 2 = 0 ∨ a % 2 = 1 by omega) with hp | hp
    · have hq : (a + 1) % 2 = 1 := by omega
      rw [hp] at h1
      rw [hq] at h2
      rw [h1]
      have e1 : newer (0, false, []) (some (a, has, img)) = (a, has, img) := by
        unfold newer
        simp only
        rw [if_pos (by omega)]
      rw [e1]
      cases hc : hcnt V h 1 with
      | none => rfl
      | some b =>
        have := h2 b hc
        unfold newer
        simp only
        rw [if_neg (by omega)]
    · have hq : (a + 1) % 2 = 0 := by omega
      rw [hp] at h1
      rw [hq] at h2
      rw [h1]
      cases hc : hcnt V h 0 with
      | none =>
        unfold newer
        simp only
        rw [if_pos (by omega)]
      | some b =>
        have hb := h2 b hc
        have hb1 := (hcnt_inv hc).2.1
        have e1 : newer (0, false, []) (some b) = b := by
          unfold newer
          simp only
          rw [if_pos (by omega)]
        rw [e1]
        unfold newer
        simp only
        rw [if_pos (by omega)]

/-- Behind commits and deletes: the newest head, and the one before it. -/
structure Good (V : Nat → List Int) (h a : Nat) (has : Bool) (img : List Int) (has' : Bool) (img' : List Int) : Prop where
  new : Sits V h (a % 2) a has img
  old : Sits V h ((a + 1) % 2) (a - 1) has' img'
  room : 64 * h ≤ 4294967295
theorem Good.zero (hG : Good V h 0 has img has' img') : has = false ∧ img = [] := by
  rcases hG.new with ⟨_, _, h1, h2⟩ | ⟨h1, _⟩
  · exact ⟨h1, h2⟩
  · omega
theorem Good.found (hG : Good V h a has img has' img') : opn V h = (a, has, img) := by
  refine opn_two (hG.new.cnt hG.room) ?_ fun h0 => ?_
  · intro b hb
    by_cases ha : a = 0
    · subst ha
      rcases hG.old with ⟨_, hz, _⟩ | ⟨h1, _⟩
      · rw [hcnt_zero hz] at hb
        cases hb
      · omega
    · exact (hG.old.older (by omega) hG.room).cnt b hb
  · subst h0
    exact hG.zero
/-- A bit of the newest head, or of its image, is turned over, so that it doesn't count: what was there before it is found. -/
theorem Good.back (hG : Good V h a has img has' img') (ha : 1 ≤ a) (h1 : hcnt V' h (a % 2) = none) (h2 : V' ((a + 1) % 2) = V ((a + 1) % 2)) (h3 : slotB V' h ((a + 1) % 2) = slotB V h ((a + 1) % 2)) : opn V' h = (a - 1, has', img') := by
  have hS := hG.old.congr h2 h3
  have hc := hS.cnt hG.room
  refine opn_two ?_ ?_ ?_
  · rw [show (a - 1) % 2 = (a + 1) % 2 by omega, hc]
  · rw [show (a - 1 + 1) % 2 = a % 2 by omega, h1]
    intro b hb
    cases hb
  · intro h0
    rcases hG.old with ⟨_, _, h4, h5⟩ | ⟨h4, _⟩
    · exact ⟨h4, h5⟩
    · omega
/-- The next age: its head in the other sector, its image in the other slot. -/
theorem Good.next {q : Bool} {i : List Int} (hG : Good V h a has img has' img') (ha : a + 1 ≤ 1099511627776) (h1 : V' (a % 2) = V (a % 2)) (h2 : slotB V' h (a % 2) = slotB V h (a % 2)) (h3 : V' ((a + 1) % 2) = hsec (a + 1) q i) (h4 : (slotB V' h ((a + 1) % 2)).take i.length = i) (h5 : i.length ≤ 64 * h) (h6 : q = false → i = []) : Good V' h (a + 1) q i has img := by
  refine ⟨.inr ⟨by omega, ha, rfl, h3, h4, h5, h6⟩, ?_, hG.room⟩
  rw [show (a + 1 + 1) % 2 = a % 2 by omega, show a + 1 - 1 = a by omega]
  exact hG.new.congr h1 h2
/-- What lies in the other slot doesn't matter, as long as its head is the older one. -/
theorem Good.still (hG : Good V h a has img has' img') (h1 : V' (a % 2) = V (a % 2)) (h2 : slotB V' h (a % 2) = slotB V h (a % 2)) (h3 : V' ((a + 1) % 2) = V ((a + 1) % 2)) : opn V' h = (a, has, img) := by
  refine opn_two ((hG.new.congr h1 h2).cnt hG.room) ?_ fun h0 => ?_
  · intro b hb
    by_cases ha : a = 0
    · subst ha
      rcases hG.old with ⟨_, hz, _⟩ | ⟨h4, _⟩
      · rw [hcnt_zero (h3.trans hz)] at hb
        cases hb
      · omega
    · exact ((hG.old.older (by omega) hG.room).congr h3).cnt b hb
  · subst h0
    exact hG.zero
end

/-- One bit of bytes is turned over. -/
def turn (l : List Int) (t : Nat) : List Int := l.set (t / 8) ((((l.getD (t / 8) 0).toNat ^^^ 2 ^ (t % 8) : Nat)) : Int)
theorem turn_len (l : List Int) (t : Nat) : (turn l t).length = l.length := List.length_set
theorem turn_bs {l : List Int} (hl : Bs l) (t : Nat) : Bs (turn l t) := by
  intro x hx
  rcases List.mem_or_eq_of_mem_set hx with h | h
  · exact hl x h
  · have hd : 0 ≤ l.getD (t / 8) 0 ∧ l.getD (t / 8) 0 ≤ 255 := by
      rw [List.getD_eq_getElem?_getD]
      cases h : l[t / 8]? with
      | none => simp
      | some y => exact hl y (List.mem_of_getElem? h)
    have hm : 2 ^ (t % 8) < 2 ^ 8 := Nat.pow_lt_pow_right (by decide) (Nat.mod_lt _ (by decide))
    have := Nat.xor_lt_two_pow (n := 8) (show (l.getD (t / 8) 0).toNat < 2 ^ 8 by omega) hm
    rw [h]
    omega
theorem turn_Nt {l : List Int} {t : Nat} (ht : t / 8 < l.length) : Nt (turn l t) = Nt l ^^^ 2 ^ (8 * (t / 8)) * 2 ^ (t % 8) := Nt_set l (2 ^ (t % 8)) (t / 8) ht
theorem turn_ne {l : List Int} {t : Nat} (ht : t / 8 < l.length) : turn l t ≠ l := by
  intro h
  have h1 := turn_Nt ht
  rw [h] at h1
  have h2 := xor_self_left (Nt l) (2 ^ (8 * (t / 8)) * 2 ^ (t % 8))
  rw [← h1, Nat.xor_self] at h2
  have := Nat.mul_pos (Nat.two_pow_pos (8 * (t / 8))) (Nat.two_pow_pos (t % 8))
  omega
theorem turn_take {l : List Int} {t n : Nat} (ht : t / 8 < n) : (turn l t).take n = turn (l.take n) t := by
  unfold turn
  rw [List.take_set]
  congr 3
  rw [List.getD_eq_getElem?_getD, List.getD_eq_getElem?_getD, List.getElem?_take_of_lt ht]
theorem turn_win {l : List Int} {t : Nat} (ht : t / 8 < l.length) : Win (Nt l ^^^ Nt (turn l t)) := by
  rw [turn_Nt ht, xor_self_left]
  refine ⟨8 * (t / 8), 2 ^ (t % 8), ?_, rfl⟩
  have : 2 ^ (t % 8) < 2 ^ 8 := Nat.pow_lt_pow_right (by decide) (Nat.mod_lt _ (by decide))
  omega

section
variable {V V' : Nat → List Int} {h k a : Nat} {has : Bool} {img : List Int}
theorem hhead_take (a : Nat) (has : Bool) (img : List Int) : (hsec a has img).take 25 = hhead a has img := List.take_left' (hhead_len a has img)
/-- A head of which a bit is turned over is none. -/
theorem turned_head (hV : V k = hsec a has img) (t : Nat) (ht : t < 200) (hV' : V' k = turn (V k) t) : hcnt V' h k = none := by
  cases hc : hcnt V' h k with
  | none => rfl
  | some b =>
    exfalso
    obtain ⟨h1, _⟩ := hcnt_inv hc
    have h25 : t / 8 < 25 := by omega
    have e1 : hhead b.1 b.2.1 b.2.2 = turn (hhead a has img) t := by
      rw [← hhead_take, ← h1, hV', turn_take h25, hV, hhead_take]
    have hw : Win (Nt (hhead a has img) ^^^ Nt (hhead b.1 b.2.1 b.2.2)) := by
      rw [e1]
      exact turn_win (by rw [hhead_len]; exact h25)
    have e2 := win_word (by rw [hcore_len, hcore_len]) (hcore_bs _ _ _) (hcore_bs _ _ _) (xs := hcore a has img) (ys := hcore b.1 b.2.1 b.2.2) hw
    have e3 : hhead b.1 b.2.1 b.2.2 = hhead a has img := by unfold hhead; rw [e2]
    rw [e3] at e1
    exact turn_ne (by rw [hhead_len]; exact h25) e1.symm
theorem hsec_ck {i j : List Int} (hl : i.length = j.length) (he : hsec a true i = hsec a true j) : ck i = ck j := by
  have h1 : hhead a true i = hhead a true j := by rw [← hhead_take, he, hhead_take]
  have h2 : hcore a true i = hcore a true j := by
    unfold hhead at h1
    exact (List.append_inj h1 (by rw [hcore_len, hcore_len])).1
  unfold hcore at h2
  rw [hl] at h2
  have h3 := (List.append_inj' h2 rfl).2
  simp only [if_true] at h3
  have h4 := congrArg num h3
  rw [num_dgn (by rw [show pw 4 = 4294967296 from rfl]; have := ck_lt i; omega), num_dgn (by rw [show pw 4 = 4294967296 from rfl]; have := ck_lt j; omega)] at h4
  omega
/-- An image of which a bit is turned over doesn't count. -/
theorem turned_image (hV : V k = hsec a true img) (ha : a ≤ 1099511627776) (hi : img.length ≤ 4294967295) (hb : Bs img) (t : Nat) (ht : t / 8 < img.length) (hV' : V' k = V k) (hs' : (slotB V' h k).take img.length = turn img t) : hcnt V' h k = none := by
  cases hc : hcnt V' h k with
  | none => rfl
  | some b =>
    exfalso
    obtain ⟨h1, _, _, _, h5, h6, _⟩ := hcnt_inv hc
    obtain ⟨e1, e2, e3⟩ := f_hsec (has := true) (img := img) ha hi
    have hV2 : V' k = hsec a true img := hV'.trans hV
    rw [hV2, e2, Int.toNat_natCast, hs'] at h6
    rw [hV2, e1] at h5
    have hba : b.1 = a := by omega
    have hq : b.2.1 = true := by
      have h7 : (hsec a true img).getD 12 0 = (if b.2.1 then 1 else 0) := by
        rw [← hV2, h1]
        exact (f_hsec (by rw [hba]; exact ha) (by rw [h6, turn_len]; exact hi)).2.2
      rw [e3] at h7
      cases hbb : b.2.1 with
      | true => rfl
      | false => rw [hbb] at h7; simp at h7
    rw [hV2, hba, hq, h6] at h1
    have h8 := hsec_ck (turn_len img t).symm h1
    have h9 := win_ck (turn_len img t) hb (turn_bs hb t) (turn_win ht) h8.symm
    exact turn_ne ht h9.symm
end
end Go.Proofs.YtgfkbkonelphaaaGreatDoor
