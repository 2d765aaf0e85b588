/-
  Plain facts: what is unpacked, packed, is the same bytes; what differs within 32 bits isn't unpacked. Nothing of Go is named here.
-/
import Derived.Test.YthhikjgaljkfpaaDoorPMath
namespace Go.Proofs.YthhikjgaljkfpaaDoor

theorem bodU_inv {es : List En} : ∀ {r : List Int} {l : List Sn}, bodU es r = some l → total es = r.length → bods l = r ∧ l.map enOf = es := by
  induction es with
  | nil =>
    intro r l h ht
    have : r = [] := List.eq_nil_of_length_eq_zero (by simpa [total] using ht.symm)
    subst this
    cases h
    exact ⟨rfl, rfl⟩
  | cons e es ih =>
    intro r l h ht
    have ht : e.n + total es = r.length := by simpa [total] using ht
    unfold bodU at h
    by_cases hc : ck4 (r.take e.n) = e.c
    · rw [if_pos hc, Option.map_eq_some_iff] at h
      obtain ⟨m, hm, rfl⟩ := h
      obtain ⟨h1, h2⟩ := ih hm (by rw [List.length_drop]; omega)
      refine ⟨?_, ?_⟩
      · rw [bods, List.flatMap_cons, ← bods, h1]
        exact List.take_append_drop _ _
      · rw [List.map_cons, h2]
        have : enOf ⟨e.k, r.take e.n⟩ = e := by
          unfold enOf
          have hl : (r.take e.n).length = e.n := by rw [List.length_take]; omega
          simp only [hl, hc]
        rw [this]
    · rw [if_neg hc] at h
      cases h
theorem tabl_take {l : List Sn} : ∀ {c : List Int}, (∀ i (h : i < l.length), ent l[i] = (c.drop (7 * i)).take 7) → tabl l = c.take (7 * l.length) := by
  induction l with
  | nil => intro c _; rfl
  | cons s l ih =>
    intro c h
    have h0 : ent s = c.take 7 := by
      have := h 0 (by simp)
      rw [Nat.mul_zero, List.drop_zero] at this
      exact this
    have h1 : tabl l = (c.drop 7).take (7 * l.length) := ih fun i hi => by
      have := h (i + 1) (by simpa using hi)
      rw [List.drop_drop, show 7 + 7 * i = 7 * (i + 1) by omega]
      simpa using this
    rw [List.length_cons, show 7 * (l.length + 1) = 7 + 7 * l.length by omega, List.take_add, tabl, List.flatMap_cons, ← tabl, h0, h1]
theorem getD_rg {b : List Int} (hb : Bs b) (i : Nat) : 0 ≤ b.getD i 0 ∧ b.getD i 0 ≤ 255 := by
  rw [List.getD_eq_getElem?_getD]
  cases h : b[i]? with
  | none => simp
  | some x => exact hb x (List.mem_of_getElem? h)
theorem drop_getD {b : List Int} {i : Nat} (h : i < b.length) : b.drop i = b.getD i 0 :: b.drop (i + 1) := by
  rw [List.drop_eq_getElem_cons h, List.getD_eq_getElem?_getD, List.getElem?_eq_getElem h]
  rfl
theorem ent_at {b : List Int} (hb : Bs b) {i : Nat} (h : 16 + 7 * i ≤ b.length) {s : Sn} (he : enOf s = entAt b i) : ent s = (b.drop (9 + 7 * i)).take 7 := by
  unfold enOf entAt at he
  simp only [En.mk.injEq] at he
  obtain ⟨hk, hn, hc⟩ := he
  have h1 := getD_rg hb (10 + 7 * i)
  have h2 := getD_rg hb (11 + 7 * i)
  have h65 : s.body.length ≤ 65535 := by omega
  rw [drop_getD (i := 9 + 7 * i) (by omega), show 9 + 7 * i + 1 = 10 + 7 * i by omega, drop_getD (i := 10 + 7 * i) (by omega), show 10 + 7 * i + 1 = 11 + 7 * i by omega, drop_getD (i := 11 + 7 * i) (by omega), show 11 + 7 * i + 1 = 12 + 7 * i by omega]
  rw [ent, two_bytes h65, hk, hc]
  have e1 : ((s.body.length % 256 : Nat) : Int) = b.getD (10 + 7 * i) 0 := by omega
  have e2 : ((s.body.length / 256 : Nat) : Int) = b.getD (11 + 7 * i) 0 := by omega
  rw [e1, e2]
  rfl
/-- What is unpacked is an image. -/
theorem unp_zero {b : List Int} (hb : Bs b) {l : List Sn} (h : unp b = (0, l)) : Can l ∧ image l = b := by
  unfold unp at h
  by_cases c1 : b.length < 9
  · rw [if_pos c1] at h; cases h
  rw [if_neg c1] at h
  by_cases c2 : b.take 4 ≠ [68, 80, 90, 49]
  · rw [if_pos c2] at h; cases h
  rw [if_neg c2] at h
  by_cases c3 : (b.drop 5).take 4 ≠ ck4 (b.take 5)
  · rw [if_pos c3] at h; cases h
  rw [if_neg c3] at h
  by_cases c4 : 16 < b.getD 4 0
  · rw [if_pos c4] at h; cases h
  rw [if_neg c4] at h
  have g4 := getD_rg hb 4
  obtain ⟨m, hm⟩ : ∃ m : Nat, b.getD 4 0 = (m : Int) := ⟨(b.getD 4 0).toNat, by omega⟩
  simp only [hm, Int.toNat_natCast] at h
  by_cases c5 : b.length < 13 + 7 * m
  · rw [if_pos c5] at h; cases h
  rw [if_neg c5] at h
  by_cases c6 : (b.drop (9 + 7 * m)).take 4 ≠ ck4 (b.take (9 + 7 * m))
  · rw [if_pos c6] at h; cases h
  rw [if_neg c6] at h
  by_cases c7 : kinds 0 (ents b m) = false
  · rw [if_pos c7] at h; cases h
  rw [if_neg c7] at h
  by_cases c8 : b.length - (13 + 7 * m) < total (ents b m)
  · rw [if_pos c8] at h; cases h
  rw [if_neg c8] at h
  by_cases c9 : total (ents b m) < b.length - (13 + 7 * m)
  · rw [if_pos c9] at h; cases h
  rw [if_neg c9] at h
  have hu : bodU (ents b m) (b.drop (13 + 7 * m)) = some l := by
    cases hu : bodU (ents b m) (b.drop (13 + 7 * m)) with
    | none => rw [hu] at h; cases h
    | some k => rw [hu] at h; cases h; rfl
  obtain ⟨hb1, hb2⟩ := bodU_inv hu (by rw [List.length_drop]; omega)
  have hlen : l.length = m := by
    have := congrArg List.length hb2
    simpa [ents] using this
  have hat : ∀ i (h : i < l.length), enOf l[i] = entAt b i := fun i hi => by
    have e1 : (l.map enOf)[i]'(by simpa using hi) = (ents b m)[i]'(by simp [ents]; omega) := by
      congr 1
    simpa [ents] using e1
  have ht : tabl l = (b.drop 9).take (7 * l.length) := tabl_take fun i hi => by
    rw [ent_at hb (by omega) (hat i hi), List.drop_drop]
  have hh : hdr l.length = b.take 5 := by
    rw [show (5 : Nat) = 4 + 1 from rfl, List.take_add, Decidable.not_not.1 c2, drop_getD (by omega : 4 < b.length), hm, hlen]
    rfl
  have hf : front l = b.take (9 + 7 * m) := by
    unfold front
    rw [ht, hlen, List.take_add, ← hlen, hh, ← Decidable.not_not.1 c3, show (9 : Nat) = 5 + 4 from rfl, List.take_add]
  refine ⟨⟨by omega, kinds_risen (Int.le_refl 0) (by rw [hb2]; simpa using c7) ?_, ?_⟩, ?_⟩
  · intro s hs
    obtain ⟨i, hi, rfl⟩ := List.getElem_of_mem hs
    have := congrArg En.k (hat i hi)
    have h1 := getD_rg hb (9 + 7 * i)
    simp only [enOf, entAt] at this
    omega
  · intro s hs
    obtain ⟨i, hi, rfl⟩ := List.getElem_of_mem hs
    have := congrArg En.n (hat i hi)
    have h1 := getD_rg hb (10 + 7 * i)
    have h2 := getD_rg hb (11 + 7 * i)
    simp only [enOf, entAt] at this
    omega
  · unfold image
    have e : b.drop (13 + 7 * m) = (b.drop (9 + 7 * m)).drop 4 := by rw [List.drop_drop, show 9 + 7 * m + 4 = 13 + 7 * m by omega]
    rw [hf, ← Decidable.not_not.1 c6, hb1, e, List.append_assoc, List.take_append_drop, List.take_append_drop]

/-- Unlike sections have unlike images. -/
theorem image_inj {l k : List Sn} (hl : Can l) (hk : Can k) (h : image l = image k) : l = k := by
  have h1 := unp_image hl
  rw [h, unp_image hk] at h1
  exact (Prod.mk.inj h1).2.symm

theorem Bs.ents {l : List Sn} (h : risen 0 l = true) : Bs (tabl l) := by
  intro x hx
  obtain ⟨s, hs, hx⟩ := List.mem_flatMap.1 hx
  have hr := risen_rg h s hs
  rcases List.mem_cons.1 hx with rfl | hx
  · exact ⟨by omega, hr.2⟩
  rcases List.mem_append.1 hx with hx | hx
  · exact dg_bytes 2 _ x hx
  · exact ck4_bs _ x hx
theorem Bs.hdr {n : Nat} (h : n ≤ 16) : Bs (hdr n) := by
  intro x hx
  simp only [Proofs.YthhikjgaljkfpaaDoor.hdr, List.mem_cons, List.not_mem_nil, or_false] at hx
  omega
theorem Bs.front {l : List Sn} (h : Can l) : Bs (front l) := ((Bs.hdr h.len).app (ck4_bs _)).app (Bs.ents h.rise)
theorem Bs.image {l : List Sn} (h : Can l) (hb : ∀ s ∈ l, Bs s.body) : Bs (image l) := ((Bs.front h).app (ck4_bs _)).app fun x hx => by
  obtain ⟨s, hs, hx⟩ := List.mem_flatMap.1 hx
  exact hb s hs x hx

theorem bods_win {l : List Sn} : ∀ {k : List Sn}, k.map enOf = l.map enOf → (∀ s ∈ l, Bs s.body) → (∀ s ∈ k, Bs s.body) → Win (Nt (bods l) ^^^ Nt (bods k)) → l = k := by
  induction l with
  | nil =>
    intro k hk _ _ _
    rw [List.map_nil, List.map_eq_nil_iff] at hk
    exact hk.symm
  | cons s l ih =>
    intro k hk hl hb hw
    cases k with
    | nil => cases hk
    | cons t k =>
      rw [List.map_cons, List.map_cons, List.cons.injEq] at hk
      obtain ⟨h1, h2⟩ := hk
      unfold enOf at h1
      simp only [En.mk.injEq] at h1
      obtain ⟨hk1, hk2, hk3⟩ := h1
      have bs := hl s (List.mem_cons_self ..)
      have bt := hb t (List.mem_cons_self ..)
      rw [bods, bods, List.flatMap_cons, List.flatMap_cons, ← bods, ← bods] at hw
      have e := win_ck hk2 bs bt (win_left bs bt hk2 hw) (ck4_inj hk3)
      have e2 := ih h2 (fun x hx => hl x (List.mem_cons_of_mem _ hx)) (fun x hx => hb x (List.mem_cons_of_mem _ hx)) (win_right bs bt hk2 hw)
      rw [e2]
      congr 1
      cases s
      cases t
      simp only at hk1 e
      rw [hk1, e]
/-- Two images within a window are one. -/
theorem image_win {l k : List Sn} (hl : Can l) (hk : Can k) (bl : ∀ s ∈ l, Bs s.body) (bk : ∀ s ∈ k, Bs s.body) (hw : Win (Nt (image l) ^^^ Nt (image k))) : l = k := by
  have e1 : ∀ m : List Sn, image m = (hdr m.length ++ ck4 (hdr m.length)) ++ (tabl m ++ (ck4 (front m) ++ bods m)) := fun m => by simp [image, front]
  have b9 : ∀ m : List Sn, Can m → Bs (hdr m.length ++ ck4 (hdr m.length)) := fun m hm => (Bs.hdr hm.len).app (ck4_bs _)
  have n9 : ∀ m : List Sn, (hdr m.length ++ ck4 (hdr m.length)).length = 9 := fun m => by rw [List.length_append, ck4_len]; rfl
  have hh : hdr l.length = hdr k.length := by
    have hw := hw
    rw [e1 l, e1 k] at hw
    exact win_word rfl (Bs.hdr hl.len) (Bs.hdr hk.len) (win_left (b9 l hl) (b9 k hk) (by rw [n9, n9]) hw)
  have hlen : k.length = l.length := by
    have := congrArg (fun x : List Int => x.getD 4 0) hh
    simp only [hdr] at this
    simp at this
    omega
  have hfl : (front k).length = (front l).length := by rw [front_len, front_len, hlen]
  have hfc : (front k ++ ck4 (front k)).length = (front l ++ ck4 (front l)).length := by rw [List.length_append, List.length_append, ck4_len, ck4_len, hfl]
  have bf : ∀ m : List Sn, Can m → Bs (front m ++ ck4 (front m)) := fun m hm => (Bs.front hm).app (ck4_bs _)
  have hf : front l = front k := win_word hfl (Bs.front hl) (Bs.front hk) (win_left (bf l hl) (bf k hk) hfc hw)
  have he : k.map enOf = l.map enOf := by
    have h1 := ents_front hl.long []
    have h2 := ents_front hk.long []
    rw [← hf, hlen, h1] at h2
    exact h2.symm
  exact bods_win he bl bk (win_right (bf l hl) (bf k hk) hfc hw)
/-- What differs within 32 bits in a row isn't unpacked. -/
theorem unp_burst {l : List Sn} (hl : Can l) (bl : ∀ s ∈ l, Bs s.body) {ys : List Int} (by' : Bs ys) {k d : Nat} (hd : d < 4294967296) (hx : Nt ys = Nt (image l) ^^^ 2 ^ k * d) (hne : d ≠ 0) : (unp ys).1 ≠ 0 := by
  intro h0
  have hu : unp ys = (0, (unp ys).2) := by rw [← h0]
  obtain ⟨hc, hi⟩ := unp_zero by' hu
  have bk : ∀ s ∈ (unp ys).2, Bs s.body := fun s hs x hx => by
    refine by' x ?_
    rw [← hi]
    exact List.mem_append_right _ (List.mem_flatMap.2 ⟨s, hs, hx⟩)
  have e := image_win hl hc bl bk ⟨k, d, hd, by rw [hi, hx, xor_self_left]⟩
  rw [← e] at hi
  rw [hi] at hx
  have : 2 ^ k * d = 0 := by
    have := xor_self_left (Nt ys) (2 ^ k * d)
    rw [← hx, Nat.xor_self] at this
    exact this.symm
  rcases Nat.mul_eq_zero.1 this with h | h
  · have := Nat.two_pow_pos k; omega
  · exact hne h

/-- What is found: the first of its kind. -/
def find (l : List Sn) (k : Int) : Option (List Int) := (l.find? fun s => s.kind = k).map Sn.body
theorem risen_gt {l : List Sn} : ∀ {last : Int}, risen last l = true → ∀ s ∈ l, last < s.kind := by
  induction l with
  | nil => intro _ _ s hs; cases hs
  | cons a l ih =>
    intro last h s hs
    simp only [risen, Bool.and_eq_true, decide_eq_true_eq] at h
    rcases List.mem_cons.1 hs with rfl | hs
    · exact h.1.2
    · have := ih h.2 s hs
      omega
theorem find_mem {l : List Sn} : ∀ {last : Int}, risen last l = true → ∀ s ∈ l, find l s.kind = some s.body := by
  induction l with
  | nil => intro _ _ s hs; cases hs
  | cons a l ih =>
    intro last h s hs
    simp only [risen, Bool.and_eq_true, decide_eq_true_eq] at h
    unfold find
    rcases List.mem_cons.1 hs with rfl | hs
    · rw [List.find?_cons_of_pos (by simp)]
      rfl
    · have := risen_gt h.2 s hs
      rw [List.find?_cons_of_neg (by simp; omega)]
      exact ih h.2 s hs
theorem find_none {l : List Sn} {k : Int} : find l k = none ↔ ∀ s ∈ l, s.kind ≠ k := by
  unfold find
  rw [Option.map_eq_none_iff, List.find?_eq_none]
  simp
end Go.Proofs.YthhikjgaljkfpaaDoor
