namespace Go.Proofs.Ytmbolmmcfnfamaa.Orb

/-! Plain mathematics for passes, nearest ticks and distances: no program in it. -/
/-- how many ticks there are in ranges -/
def cntI : List (Int × Int) → Int
  | [] => 0
  | p :: r => (p.2 - p.1 + 1) + cntI r
theorem cntI_append (R S : List (Int × Int)) : cntI (R ++ S) = cntI R + cntI S := by
  induction R with
  | nil => simp [cntI]
  | cons p r ih => rw [List.cons_append, cntI, cntI, ih]; omega
/-- ranges of ticks -/
def GoodI (R : List (Int × Int)) : Prop := ∀ p ∈ R, 0 ≤ p.1 ∧ p.1 ≤ p.2 ∧ p.2 ≤ 1000000000
def growJ (R : List (Int × Int)) (t : Int) : List (Int × Int) :=
  match R.getLast? with
  | some p => if p.2 = t - 1 then R.dropLast ++ [(p.1, t)] else R ++ [(t, t)]
  | none => [(t, t)]
theorem growJ_cases (R : List (Int × Int)) (t : Int) : (R = [] ∧ growJ R t = [(t, t)]) ∨ (∃ S lo, R = S ++ [(lo, t - 1)] ∧ growJ R t = S ++ [(lo, t)]) ∨ growJ R t = R ++ [(t, t)] := by
  rcases List.eq_nil_or_concat R with h | ⟨S, ⟨lo, hi⟩, h⟩
  · left; subst h; exact ⟨rfl, rfl⟩
  · right
    rw [List.concat_eq_append] at h
    subst h
    unfold growJ
    rw [List.getLast?_concat]
    dsimp only
    by_cases hc : hi = t - 1
    · left; rw [if_pos hc]; exact ⟨S, lo, by rw [hc], by rw [List.dropLast_concat]⟩
    · right; rw [if_neg hc]
theorem growJ_cnt (R : List (Int × Int)) (t : Int) : cntI (growJ R t) = cntI R + 1 := by
  rcases growJ_cases R t with ⟨h, h2⟩ | ⟨S, lo, h, h2⟩ | h2
  · rw [h2, h]; simp [cntI]
  · rw [h2, h, cntI_append, cntI_append]; simp [cntI]; omega
  · rw [h2, cntI_append]; simp [cntI]
theorem growJ_good {R : List (Int × Int)} {t : Int} (h : GoodI R) (h0 : 0 ≤ t) (h1 : t ≤ 1000000000) : GoodI (growJ R t) := by
  rcases growJ_cases R t with ⟨e, h2⟩ | ⟨S, lo, e, h2⟩ | h2
  · rw [h2]; intro p hp; simp at hp; subst hp; exact ⟨h0, Int.le_refl _, h1⟩
  · rw [h2]; intro p hp
    rcases List.mem_append.1 hp with hp | hp
    · exact h p (by rw [e]; exact List.mem_append.2 (.inl hp))
    · have := h (lo, t - 1) (by rw [e]; simp)
      simp at hp; subst hp
      dsimp only at this ⊢
      omega
  · rw [h2]; intro p hp
    rcases List.mem_append.1 hp with hp | hp
    · exact h p hp
    · simp at hp; subst hp; exact ⟨h0, Int.le_refl _, h1⟩
/-- ticks in a first part of ranges -/
def cntTo (R : List (Int × Int)) (k : Nat) : Int := cntI (R.take k)
theorem cntTo_zero (R : List (Int × Int)) : cntTo R 0 = 0 := by simp [cntTo, cntI]
theorem cntTo_succ (R : List (Int × Int)) (k : Nat) (h : k < R.length) : cntTo R (k + 1) = cntTo R k + ((R.getD k (0, 0)).2 - (R.getD k (0, 0)).1 + 1) := by
  unfold cntTo
  rw [List.take_add_one, List.getElem?_eq_getElem h, cntI_append]
  simp [cntI, List.getD, List.getElem?_eq_getElem h]
theorem cntTo_all (R : List (Int × Int)) : cntTo R R.length = cntI R := by simp [cntTo]
theorem cntTo_bd {R : List (Int × Int)} (h : GoodI R) : ∀ k, k ≤ R.length → 0 ≤ cntTo R k ∧ cntTo R k ≤ k * 1000000001 := by
  intro k
  induction k with
  | zero => intro _; rw [cntTo_zero]; omega
  | succ k ih =>
    intro hk
    have h1 := ih (by omega)
    rw [cntTo_succ R k (by omega)]
    have h2 := h (R.getD k (0, 0)) (by simp [List.getD, List.getElem?_eq_getElem (show k < R.length by omega)])
    generalize R.getD k (0, 0) = p at *
    omega
theorem GoodI.at {R : List (Int × Int)} (h : GoodI R) (k : Nat) (hk : k < R.length) : 0 ≤ (R.getD k (0, 0)).1 ∧ (R.getD k (0, 0)).1 ≤ (R.getD k (0, 0)).2 ∧ (R.getD k (0, 0)).2 ≤ 1000000000 :=
  h _ (by simp [List.getD, List.getElem?_eq_getElem hk])
/-- ranges of the ticks at which a number is at most another one -/
def passF (F : Int → Int) (m : Int) (l : List Int) : List (Int × Int) := l.foldl (fun R t => if F t ≤ m then growJ R t else R) []
theorem passF_good (F : Int → Int) (m : Int) (l : List Int) (hl : ∀ t ∈ l, 0 ≤ t ∧ t ≤ 1000000000) : GoodI (passF F m l) := by
  have key : ∀ (l : List Int) (R : List (Int × Int)), (∀ t ∈ l, 0 ≤ t ∧ t ≤ 1000000000) → GoodI R → GoodI (l.foldl (fun R t => if F t ≤ m then growJ R t else R) R) := by
    intro l
    induction l with
    | nil => intro R _ h; exact h
    | cons t r ih =>
      intro R hl h
      rw [List.foldl_cons]
      refine ih _ (fun t ht => hl t (List.mem_cons_of_mem _ ht)) ?_
      have := hl t (List.mem_cons_self ..)
      split
      · exact growJ_good h this.1 this.2
      · exact h
  exact key l [] hl (by intro p hp; cases hp)
theorem passF_mono (F : Int → Int) (m m' : Int) (h : m ≤ m') (l : List Int) : cntI (passF F m l) ≤ cntI (passF F m' l) := by
  have key : ∀ (l : List Int) (R S : List (Int × Int)), cntI R ≤ cntI S → cntI (l.foldl (fun R t => if F t ≤ m then growJ R t else R) R) ≤ cntI (l.foldl (fun R t => if F t ≤ m' then growJ R t else R) S) := by
    intro l
    induction l with
    | nil => intro R S h; exact h
    | cons t r ih =>
      intro R S hRS
      rw [List.foldl_cons, List.foldl_cons]
      refine ih _ _ ?_
      by_cases h1 : F t ≤ m
      · rw [if_pos h1, if_pos (Int.le_trans h1 h), growJ_cnt, growJ_cnt]; omega
      · rw [if_neg h1]
        split
        · rw [growJ_cnt]; omega
        · exact hRS
  exact key l [] [] (Int.le_refl _)
theorem sq_mono {a b : Int} (h0 : 0 ≤ a) (h : a ≤ b) : a * a ≤ b * b := Int.mul_le_mul h h h0 (by omega)

/-! the least of a number, and all that may be least -/
def leastF (F : Int → Int) (first : Int) (l : List Int) : Int × Int := l.foldl (fun acc t => if F t < acc.2 then (t, F t) else acc) (first, F first)
theorem leastF_is (F : Int → Int) (first : Int) (l : List Int) : (leastF F first l).2 = F (leastF F first l).1 ∧ ((leastF F first l).1 = first ∨ (leastF F first l).1 ∈ l) ∧ (leastF F first l).2 ≤ F first ∧ ∀ t ∈ l, (leastF F first l).2 ≤ F t := by
  have key : ∀ (l : List Int) (a : Int × Int), a.2 = F a.1 → (l.foldl (fun acc t => if F t < acc.2 then (t, F t) else acc) a).2 = F (l.foldl (fun acc t => if F t < acc.2 then (t, F t) else acc) a).1 ∧
      ((l.foldl (fun acc t => if F t < acc.2 then (t, F t) else acc) a).1 = a.1 ∨ (l.foldl (fun acc t => if F t < acc.2 then (t, F t) else acc) a).1 ∈ l) ∧ (l.foldl (fun acc t => if F t < acc.2 then (t, F t) else acc) a).2 ≤ a.2 ∧
      ∀ t ∈ l, (l.foldl (fun acc t => if F t < acc.2 then (t, F t) else acc) a).2 ≤ F t := by
    intro l
    induction l with
    | nil => intro a h; exact ⟨h, .inl rfl, Int.le_refl _, fun t ht => by cases ht⟩
    | cons t r ih =>
      intro a h
      rw [List.foldl_cons]
      by_cases hc : F t < a.2
      · rw [if_pos hc]
        obtain ⟨h1, h2, h3, h4⟩ := ih (t, F t) rfl
        refine ⟨h1, .inr ?_, by dsimp only at h3; omega, fun u hu => ?_⟩
        · rcases h2 with h2 | h2
          · rw [h2]; exact List.mem_cons_self ..
          · exact List.mem_cons_of_mem _ h2
        · rcases List.mem_cons.1 hu with rfl | hu
          · exact h3
          · exact h4 u hu
      · rw [if_neg hc]
        obtain ⟨h1, h2, h3, h4⟩ := ih a h
        refine ⟨h1, ?_, h3, fun u hu => ?_⟩
        · rcases h2 with h2 | h2
          · exact .inl h2
          · exact .inr (List.mem_cons_of_mem _ h2)
        · rcases List.mem_cons.1 hu with rfl | hu
          · omega
          · exact h4 u hu
  exact key l (first, F first) rfl
/-- the range of all that are at most a bound, with one that is in it -/
def mayF (F : Int → Int) (bound w : Int) (l : List Int) : Int × Int := l.foldl (fun acc t => if F t ≤ bound then (min acc.1 t, max acc.2 t) else acc) (w, w)
theorem mayF_snoc (F : Int → Int) (bound w : Int) (l : List Int) (t : Int) : mayF F bound w (l ++ [t]) = if F t ≤ bound then (min (mayF F bound w l).1 t, max (mayF F bound w l).2 t) else mayF F bound w l := by unfold mayF; rw [List.foldl_append]; rfl
theorem mayF_is (F : Int → Int) (bound w : Int) (l : List Int) : (mayF F bound w l).1 ≤ w ∧ w ≤ (mayF F bound w l).2 ∧ ((mayF F bound w l).1 = w ∨ (mayF F bound w l).1 ∈ l) ∧ ((mayF F bound w l).2 = w ∨ (mayF F bound w l).2 ∈ l) ∧ ∀ t ∈ l, F t ≤ bound → (mayF F bound w l).1 ≤ t ∧ t ≤ (mayF F bound w l).2 := by
  have key : ∀ (l : List Int) (a : Int × Int), (l.foldl (fun acc t => if F t ≤ bound then (min acc.1 t, max acc.2 t) else acc) a).1 ≤ a.1 ∧ a.2 ≤ (l.foldl (fun acc t => if F t ≤ bound then (min acc.1 t, max acc.2 t) else acc) a).2 ∧
      ((l.foldl (fun acc t => if F t ≤ bound then (min acc.1 t, max acc.2 t) else acc) a).1 = a.1 ∨ (l.foldl (fun acc t => if F t ≤ bound then (min acc.1 t, max acc.2 t) else acc) a).1 ∈ l) ∧
      ((l.foldl (fun acc t => if F t ≤ bound then (min acc.1 t, max acc.2 t) else acc) a).2 = a.2 ∨ (l.foldl (fun acc t => if F t ≤ bound then (min acc.1 t, max acc.2 t) else acc) a).2 ∈ l) ∧
      ∀ t ∈ l, F t ≤ bound → (l.foldl (fun acc t => if F t ≤ bound then (min acc.1 t, max acc.2 t) else acc) a).1 ≤ t ∧ t ≤ (l.foldl (fun acc t => if F t ≤ bound then (min acc.1 t, max acc.2 t) else acc) a).2 := by
    intro l
    induction l with
    | nil => intro a; exact ⟨Int.le_refl _, Int.le_refl _, .inl rfl, .inl rfl, fun t ht => by cases ht⟩
    | cons t r ih =>
      intro a
      rw [List.foldl_cons]
      by_cases hc : F t ≤ bound
      · rw [if_pos hc]
        obtain ⟨h1, h2, h3, h4, h5⟩ := ih (min a.1 t, max a.2 t)
        dsimp only at h1 h2 h3 h4
        refine ⟨by omega, by omega, ?_, ?_, fun u hu hb => ?_⟩
        · rcases h3 with h3 | h3
          · by_cases hm : a.1 ≤ t
            · left; rw [h3]; omega
            · right; rw [h3, show min a.1 t = t from by omega]; exact List.mem_cons_self ..
          · right; exact List.mem_cons_of_mem _ h3
        · rcases h4 with h4 | h4
          · by_cases hm : t ≤ a.2
            · left; rw [h4]; omega
            · right; rw [h4, show max a.2 t = t from by omega]; exact List.mem_cons_self ..
          · right; exact List.mem_cons_of_mem _ h4
        · rcases List.mem_cons.1 hu with rfl | hu
          · omega
          · exact h5 u hu hb
      · rw [if_neg hc]
        obtain ⟨h1, h2, h3, h4, h5⟩ := ih a
        refine ⟨h1, h2, ?_, ?_, fun u hu hb => ?_⟩
        · rcases h3 with h3 | h3
          · exact .inl h3
          · exact .inr (List.mem_cons_of_mem _ h3)
        · rcases h4 with h4 | h4
          · exact .inl h4
          · exact .inr (List.mem_cons_of_mem _ h4)
        · rcases List.mem_cons.1 hu with rfl | hu
          · exact absurd hb hc
          · exact h5 u hu hb
  exact key l (w, w)
/-- whether one outside may be as near -/
def outB (F : Int → Int) (bound lo hi : Int) (l : List Int) : Bool := l.any fun t => (decide (t < lo) || decide (hi < t)) && decide (F t ≤ bound)
theorem outB_snoc (F : Int → Int) (bound lo hi : Int) (l : List Int) (t : Int) : outB F bound lo hi (l ++ [t]) = (outB F bound lo hi l || ((decide (t < lo) || decide (hi < t)) && decide (F t ≤ bound))) := by
  simp [outB, List.any_append]
theorem outB_may (F : Int → Int) (bound w : Int) (l : List Int) : outB F bound (mayF F bound w l).1 (mayF F bound w l).2 l = false := by
  obtain ⟨-, -, -, -, h⟩ := mayF_is F bound w l
  unfold outB
  rw [List.any_eq_false]
  intro t ht
  by_cases hb : F t ≤ bound
  · have := h t ht hb
    simp
    omega
  · simp [hb]
theorem outB_false {F : Int → Int} {bound lo hi : Int} {l : List Int} (h : outB F bound lo hi l = false) : ∀ t ∈ l, (t < lo ∨ hi < t) → bound < F t := by
  intro t ht ho
  unfold outB at h
  rw [List.any_eq_false] at h
  have := h t ht
  simp at this
  exact this (by omega)

/-! squares -/
theorem near_sq (lo hi n c : Int) (h1 : lo ≤ n) (h2 : n ≤ hi) : max (max 0 (lo - c)) (c - hi) * max (max 0 (lo - c)) (c - hi) ≤ (n - c) * (n - c) := by
  by_cases hc : c ≤ n
  · have h3 : max (max 0 (lo - c)) (c - hi) ≤ n - c := by omega
    exact sq_mono (by omega) h3
  · have h3 : max (max 0 (lo - c)) (c - hi) ≤ -(n - c) := by omega
    have := sq_mono (by omega) h3
    rwa [Int.neg_mul_neg] at this
theorem far_sq (lo hi n c : Int) (h1 : lo ≤ n) (h2 : n ≤ hi) : (n - c) * (n - c) ≤ max (hi - c) (c - lo) * max (hi - c) (c - lo) := by
  by_cases hc : c ≤ n
  · have h3 : n - c ≤ max (hi - c) (c - lo) := by omega
    exact sq_mono (by omega) h3
  · have h3 : -(n - c) ≤ max (hi - c) (c - lo) := by omega
    have := sq_mono (by omega) h3
    rwa [Int.neg_mul_neg] at this
theorem sq_eq {a b : Int} (h : a = b ∨ a = -b) : a * a = b * b := by
  rcases h with rfl | rfl
  · rfl
  · rw [Int.neg_mul_neg]
/-- what the reference adds to the least square -/
theorem ref_near (lo hi c : Int) (h : lo ≤ hi) : (if lo ≤ c ∧ c ≤ hi then (0 : Int) else min ((c - lo) * (c - lo)) ((c - hi) * (c - hi))) = max (max 0 (lo - c)) (c - hi) * max (max 0 (lo - c)) (c - hi) := by
  by_cases h1 : lo ≤ c ∧ c ≤ hi
  · rw [if_pos h1, show max (max 0 (lo - c)) (c - hi) = 0 from by omega]; rfl
  · rw [if_neg h1]
    by_cases h2 : c < lo
    · have e : max (max 0 (lo - c)) (c - hi) = lo - c := by omega
      have h3 : (lo - c) * (lo - c) ≤ (hi - c) * (hi - c) := sq_mono (by omega) (by omega)
      rw [e, sq_eq (a := c - lo) (b := lo - c) (.inr (by omega)), sq_eq (a := c - hi) (b := hi - c) (.inr (by omega))]
      omega
    · have e : max (max 0 (lo - c)) (c - hi) = c - hi := by omega
      have h3 : (c - hi) * (c - hi) ≤ (c - lo) * (c - lo) := sq_mono (by omega) (by omega)
      rw [e]
      omega
theorem ref_far (lo hi c : Int) (h : lo ≤ hi) : max ((c - lo) * (c - lo)) ((c - hi) * (c - hi)) = max (hi - c) (c - lo) * max (hi - c) (c - lo) := by
  rw [sq_eq (a := c - hi) (b := hi - c) (.inr (by omega))]
  by_cases h2 : hi - c ≤ c - lo
  · have e : max (hi - c) (c - lo) = c - lo := by omega
    rw [e]
    by_cases h3 : 0 ≤ hi - c
    · have := sq_mono h3 h2
      omega
    · have : (-(hi - c)) * (-(hi - c)) ≤ (c - lo) * (c - lo) := sq_mono (by omega) (by omega)
      rw [Int.neg_mul_neg] at this
      omega
  · have e : max (hi - c) (c - lo) = hi - c := by omega
    rw [e]
    by_cases h3 : 0 ≤ c - lo
    · have := sq_mono h3 (show c - lo ≤ hi - c by omega)
      omega
    · have : (-(c - lo)) * (-(c - lo)) ≤ (hi - c) * (hi - c) := sq_mono (by omega) (by omega)
      rw [Int.neg_mul_neg] at this
      omega

/-! roots -/
/-- the root, rounded down -/
def IsRoot (n r : Int) : Prop := 0 ≤ r ∧ r * r ≤ n ∧ n < (r + 1) * (r + 1)
theorem IsRoot.unique {n r s : Int} (h : IsRoot n r) (k : IsRoot n s) : r = s := by
  obtain ⟨h0, h1, h2⟩ := h
  obtain ⟨k0, k1, k2⟩ := k
  rcases Int.lt_or_le r s with h | h
  · have := sq_mono (show 0 ≤ r + 1 by omega) (show r + 1 ≤ s by omega)
    omega
  · rcases Int.lt_or_le s r with h | h
    · have := sq_mono (show 0 ≤ s + 1 by omega) (show s + 1 ≤ r by omega)
      omega
    · omega
/-- the root, rounded up -/
def upOf (n r : Int) : Int := if r * r < n then r + 1 else r
theorem upOf_sq {n r : Int} (h : IsRoot n r) : n ≤ upOf n r * upOf n r := by
  obtain ⟨h0, h1, h2⟩ := h
  unfold upOf
  split <;> omega
theorem root_step {n r b : Int} (h0 : 0 ≤ r) (hb : 0 ≤ b) (h2 : n < (r + 2 * b) * (r + 2 * b)) (h : (r + b) * (r + b) ≤ n) : 0 ≤ r + b ∧ (r + b) * (r + b) ≤ n ∧ n < (r + b + b) * (r + b + b) :=
  ⟨by omega, h, by rw [show r + b + b = r + 2 * b from by omega]; exact h2⟩
theorem root_bd {n r M : Int} (h1 : r * r ≤ n) (hM : 0 ≤ M) (h : n < M * M) : r < M := by
  rcases Int.lt_or_le r M with h2 | h2
  · exact h2
  · have := sq_mono hM h2
    omega
end Go.Proofs.Ytmbolmmcfnfamaa.Orb
