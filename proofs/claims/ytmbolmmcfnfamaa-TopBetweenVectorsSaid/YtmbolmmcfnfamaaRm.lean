namespace Go.Proofs.Ytmbolmmcfnfamaa.Orb

/-! Orbit: plain mathematics, no program. -/

/-- the error of a number that is to lie between two: ErrRange is 2 -/
def rangeE (n lo hi : Int) : Int := if lo ≤ n ∧ n ≤ hi then 0 else 2
/-- the first error of a list -/
def firstE : List Int → Int
  | [] => 0
  | e :: r => if e = 0 then firstE r else e
/-- the errors of a bend, and of how many states there are -/
def countE (n : Int) : Int := if n < 2 then 10 else if 40 < n then 8 else 0
/-- the error of a place -/
def placeE (x y z : Int) : Int := firstE [rangeE x (-100000000) 100000000, rangeE y (-100000000) 100000000, rangeE z (-100000000) 100000000]
/-- rounded up -/
def ceilI (n k : Int) : Int := -(-n / k)
/-- rounded to the nearest, halves up -/
def nearI (n k : Int) : Int := (2 * n + k) / (2 * k)

/-- a state of an orbit -/
structure St where
  t : Int
  x : Int
  y : Int
  z : Int
  e : Int
def zst : St := ⟨0, 0, 0, 0, 0⟩
/-- the state k -/
def gt (L : List St) (k : Nat) : St := L.getD k zst

def stE (s : St) : Int := firstE [rangeE s.t 0 1000000000, placeE s.x s.y s.z, rangeE s.e 0 100000]
def orderE (L : List St) (k : Nat) (t : Int) : Int := if k = 0 then 0 else if t ≤ (gt L (k - 1)).t then 9 else if 20000 < t - (gt L 0).t then 8 else 0
def stepE (L : List St) (k : Nat) : Int := firstE [stE (gt L k), orderE L k (gt L k).t]
/-- the number of the first wrong state from k on, and its error -/
def chkAt (L : List St) : Nat → Nat → Int × Int
  | 0, _ => (0, 0)
  | m + 1, k => if stepE L k = 0 then chkAt L m (k + 1) else ((k : Int), stepE L k)
def chkFrom (L : List St) (k : Nat) : Int × Int := chkAt L (L.length - k) k
theorem chkFrom_end (L : List St) (k : Nat) (h : L.length ≤ k) : chkFrom L k = (0, 0) := by
  unfold chkFrom
  rw [show L.length - k = 0 from by omega]; rfl
theorem chkFrom_step (L : List St) (k : Nat) (h : k < L.length) (he : stepE L k = 0) : chkFrom L k = chkFrom L (k + 1) := by
  unfold chkFrom
  rw [show L.length - k = (L.length - (k + 1)) + 1 from by omega]
  exact if_pos he
theorem chkFrom_bad (L : List St) (k : Nat) (h : k < L.length) (he : stepE L k ≠ 0) : chkFrom L k = ((k : Int), stepE L k) := by
  unfold chkFrom
  rw [show L.length - k = (L.length - (k + 1)) + 1 from by omega]
  exact if_neg he
theorem chkFrom_right (L : List St) : ∀ m k, L.length - k = m → (chkFrom L k).2 = 0 → ∀ j, k ≤ j → j < L.length → stepE L j = 0
  | 0, k, hm, _, j, h1, h2 => by omega
  | m + 1, k, hm, h, j, h1, h2 => by
    by_cases he : stepE L k = 0
    · rw [chkFrom_step L k (by omega) he] at h
      by_cases e : j = k
      · rw [e]; exact he
      · exact chkFrom_right L m (k + 1) (by omega) h j (by omega) h2
    · rw [chkFrom_bad L k (by omega) he] at h
      exact absurd h he

theorem firstE_zero_iff (l : List Int) : firstE l = 0 ↔ ∀ e ∈ l, e = 0 := by
  induction l with
  | nil => simp [firstE]
  | cons a r ih =>
    by_cases h : a = 0
    · simp [firstE, h, ih]
    · simp [firstE, h]
theorem rangeE_zero (n lo hi : Int) : rangeE n lo hi = 0 ↔ lo ≤ n ∧ n ≤ hi := by
  unfold rangeE
  split <;> simp_all
theorem placeE_zero (x y z : Int) : placeE x y z = 0 ↔ (-100000000 ≤ x ∧ x ≤ 100000000) ∧ (-100000000 ≤ y ∧ y ≤ 100000000) ∧ (-100000000 ≤ z ∧ z ≤ 100000000) := by
  unfold placeE
  rw [firstE_zero_iff]
  simp [rangeE_zero]
/-- a right state -/
structure StOk (s : St) : Prop where
  t0 : 0 ≤ s.t
  t1 : s.t ≤ 1000000000
  x0 : -100000000 ≤ s.x
  x1 : s.x ≤ 100000000
  y0 : -100000000 ≤ s.y
  y1 : s.y ≤ 100000000
  z0 : -100000000 ≤ s.z
  z1 : s.z ≤ 100000000
  e0 : 0 ≤ s.e
  e1 : s.e ≤ 100000
theorem stE_zero (s : St) : stE s = 0 ↔ StOk s := by
  unfold stE
  rw [firstE_zero_iff]
  simp only [List.mem_cons, List.not_mem_nil, or_false, forall_eq_or_imp, forall_eq, rangeE_zero, placeE_zero]
  constructor
  · rintro ⟨⟨a, b⟩, ⟨⟨c, d⟩, ⟨e, f⟩, ⟨g, h⟩⟩, ⟨i, j⟩⟩; exact ⟨a, b, c, d, e, f, g, h, i, j⟩
  · rintro ⟨a, b, c, d, e, f, g, h, i, j⟩; exact ⟨⟨a, b⟩, ⟨⟨c, d⟩, ⟨e, f⟩, ⟨g, h⟩⟩, ⟨i, j⟩⟩

/-- what is right of an orbit's bend and states -/
structure Rt (bend : Int) (L : List St) : Prop where
  b0 : 0 ≤ bend
  b1 : bend ≤ 100000
  n0 : 2 ≤ L.length
  n1 : L.length ≤ 40
  st : ∀ k, k < L.length → StOk (gt L k)
  asc : ∀ k, k + 1 < L.length → (gt L k).t < (gt L (k + 1)).t
  arc : ∀ k, k < L.length → (gt L k).t - (gt L 0).t ≤ 20000

theorem orderE_zero (L : List St) (k : Nat) (t : Int) (h : orderE L (k + 1) t = 0) : (gt L k).t < t ∧ t - (gt L 0).t ≤ 20000 := by
  unfold orderE at h
  rw [if_neg (by omega), Nat.add_sub_cancel] at h
  split at h
  · simp at h
  · split at h
    · simp at h
    · omega
/-- the error of an orbit, with the number of its first wrong state; ne: the error of its name -/
def orbE (ne bend : Int) (L : List St) : Int × Int :=
  if firstE [ne, rangeE bend 0 100000, countE L.length] = 0 then chkFrom L 0 else (0, firstE [ne, rangeE bend 0 100000, countE L.length])
theorem Rt.of {ne bend : Int} {L : List St} (h : (orbE ne bend L).2 = 0) : ne = 0 ∧ Rt bend L := by
  unfold orbE at h
  split at h
  · rename_i h0
    rw [firstE_zero_iff] at h0
    simp only [List.mem_cons, List.not_mem_nil, or_false, forall_eq_or_imp, forall_eq, rangeE_zero] at h0
    obtain ⟨h1, ⟨h2, h3⟩, h4⟩ := h0
    have hn : 2 ≤ L.length ∧ L.length ≤ 40 := by
      unfold countE at h4
      split at h4
      · simp at h4
      · split at h4
        · simp at h4
        · omega
    have hs := chkFrom_right L L.length 0 (by omega) h
    have hq : ∀ k, k < L.length → stE (gt L k) = 0 ∧ orderE L k (gt L k).t = 0 := by
      intro k hk
      have := hs k (Nat.zero_le _) hk
      unfold stepE at this
      rw [firstE_zero_iff] at this
      simpa using this
    refine ⟨h1, h2, h3, hn.1, hn.2, fun k hk => (stE_zero _).1 (hq k hk).1, fun k hk => (orderE_zero L k _ (hq (k + 1) hk).2).1, ?_⟩
    intro k hk
    cases k with
    | zero => omega
    | succ k => exact (orderE_zero L k _ (hq (k + 1) hk).2).2
  · rename_i h0
    exact absurd h h0
/-- the first and the last tick -/
def fst (L : List St) : Int := (gt L 0).t
def lst (L : List St) : Int := (gt L (L.length - 1)).t
theorem Rt.mono {b : Int} {L : List St} (h : Rt b L) : ∀ d i, i + d < L.length → (gt L i).t + d ≤ (gt L (i + d)).t
  | 0, i, _ => by simp
  | d + 1, i, hd => by
    have h1 := h.mono d i (by omega)
    have h2 := h.asc (i + d) (by omega)
    rw [show i + (d + 1) = i + d + 1 from by omega]
    omega
theorem Rt.le {b : Int} {L : List St} (h : Rt b L) (i j : Nat) (hij : i ≤ j) (hj : j < L.length) : (gt L i).t ≤ (gt L j).t := by
  have := h.mono (j - i) i (by omega)
  rw [show i + (j - i) = j from by omega] at this
  omega

/-- the first arc that has a tick -/
def arcF (L : List St) (t : Int) : Nat → Nat → Nat
  | 0, k => k
  | m + 1, k => if (gt L (k + 1)).t < t then arcF L t m (k + 1) else k
def arcP (L : List St) (t : Int) : Nat := arcF L t (L.length - 2) 0
theorem arcF_is (L : List St) (t : Int) (r : Nat) : ∀ m k, k ≤ r → r ≤ k + m → (∀ j, k ≤ j → j < r → (gt L (j + 1)).t < t) → (r < k + m → ¬ (gt L (r + 1)).t < t) → arcF L t m k = r
  | 0, k, h1, h2, _, _ => by show k = r; omega
  | m + 1, k, h1, h2, h3, h4 => by
    show (if (gt L (k + 1)).t < t then arcF L t m (k + 1) else k) = r
    by_cases e : k = r
    · subst e; exact if_neg (h4 (by omega))
    · rw [if_pos (h3 k (Nat.le_refl _) (by omega))]
      exact arcF_is L t r m (k + 1) (by omega) (by omega) (fun j a b => h3 j (by omega) b) (fun a => h4 (by omega))
theorem arcP_is (L : List St) (t : Int) (r : Nat) (h2 : r ≤ L.length - 2) (h3 : ∀ j, j < r → (gt L (j + 1)).t < t) (h4 : r < L.length - 2 → ¬ (gt L (r + 1)).t < t) : arcP L t = r :=
  arcF_is L t r _ 0 (Nat.zero_le _) (by omega) (fun j _ b => h3 j b) (fun a => h4 (by omega))
theorem arcF_le (L : List St) (t : Int) : ∀ m k, k ≤ arcF L t m k ∧ arcF L t m k ≤ k + m
  | 0, k => ⟨Nat.le_refl _, Nat.le_refl _⟩
  | m + 1, k => by
    show k ≤ (if (gt L (k + 1)).t < t then arcF L t m (k + 1) else k) ∧ (if (gt L (k + 1)).t < t then arcF L t m (k + 1) else k) ≤ k + (m + 1)
    have := arcF_le L t m (k + 1)
    split <;> omega
theorem arcF_below (L : List St) (t : Int) : ∀ m k j, k ≤ j → j < arcF L t m k → (gt L (j + 1)).t < t
  | 0, k, j, h1, h2 => by have h3 : j < k := h2; omega
  | m + 1, k, j, h1, h2 => by
    have h3 : j < (if (gt L (k + 1)).t < t then arcF L t m (k + 1) else k) := h2
    split at h3
    · rename_i h
      by_cases e : j = k
      · subst e; exact h
      · exact arcF_below L t m (k + 1) j (by omega) h3
    · omega
theorem arcF_stop (L : List St) (t : Int) : ∀ m k, arcF L t m k < k + m → ¬ (gt L (arcF L t m k + 1)).t < t
  | 0, k, h => by have h3 : k < k := h; omega
  | m + 1, k, h => by
    have e : arcF L t (m + 1) k = (if (gt L (k + 1)).t < t then arcF L t m (k + 1) else k) := rfl
    rw [e] at h ⊢
    split at h
    · rename_i hh
      rw [if_pos hh]
      exact arcF_stop L t m (k + 1) (by omega)
    · rename_i hh
      rw [if_neg hh]; exact hh
theorem arcP_le (L : List St) (t : Int) : arcP L t ≤ L.length - 2 := by
  have := (arcF_le L t (L.length - 2) 0).2
  unfold arcP; omega
/-- a tick of the orbit lies in its arc -/
theorem arcP_in {b : Int} {L : List St} (h : Rt b L) (t : Int) (h1 : fst L ≤ t) (h2 : t ≤ lst L) : (gt L (arcP L t)).t ≤ t ∧ t ≤ (gt L (arcP L t + 1)).t ∧ arcP L t + 1 < L.length := by
  have n0 := h.n0
  have hl := arcP_le L t
  refine ⟨?_, ?_, by omega⟩
  · cases hk : arcP L t with
    | zero => exact h1
    | succ k =>
      have := arcF_below L t (L.length - 2) 0 k (Nat.zero_le _) (by unfold arcP at hk; omega)
      omega
  · by_cases e : arcP L t < L.length - 2
    · have := arcF_stop L t (L.length - 2) 0 (by unfold arcP at e; omega)
      have e2 : arcF L t (L.length - 2) 0 = arcP L t := rfl
      rw [e2] at this
      omega
    · have : arcP L t + 1 = L.length - 1 := by omega
      rw [this]; exact h2

/-! places between two states -/
def cOf (s : St) (i : Nat) : Int := if i = 0 then s.x else if i = 1 then s.y else s.z
def pt (a b p w : Int) : Int := a * (w - p) + b * p
def nomS (A B : St) (t : Int) (i : Nat) : Int := nearI (pt (cOf A i) (cOf B i) (t - A.t) (B.t - A.t)) (B.t - A.t)
def bendS (bend : Int) (A B : St) (t : Int) : Int := if t - A.t = 0 ∨ t - A.t = B.t - A.t then 0 else bend
def loS (bend : Int) (A B : St) (t : Int) (i : Nat) : Int := pt (cOf A i - A.e) (cOf B i - B.e) (t - A.t) (B.t - A.t) / (B.t - A.t) - bendS bend A B t
def hiS (bend : Int) (A B : St) (t : Int) (i : Nat) : Int := ceilI (pt (cOf A i + A.e) (cOf B i + B.e) (t - A.t) (B.t - A.t)) (B.t - A.t) + bendS bend A B t

theorem cOf_bd {s : St} (h : StOk s) (i : Nat) : -100000000 ≤ cOf s i ∧ cOf s i ≤ 100000000 := by
  unfold cOf
  have := h.x0; have := h.x1; have := h.y0; have := h.y1; have := h.z0; have := h.z1
  split
  · omega
  · split <;> omega
theorem pt_le (a b p w M : Int) (ha : a ≤ M) (hb : b ≤ M) (h0 : 0 ≤ p) (h1 : p ≤ w) : pt a b p w ≤ M * w := by
  unfold pt
  have e1 := Int.mul_le_mul_of_nonneg_right ha (show 0 ≤ w - p by omega)
  have e2 := Int.mul_le_mul_of_nonneg_right hb h0
  have e3 : M * (w - p) + M * p = M * w := by rw [← Int.mul_add]; congr 1; omega
  omega
theorem pt_neg (a b p w : Int) : pt (-a) (-b) p w = -pt a b p w := by
  unfold pt; rw [Int.neg_mul, Int.neg_mul]; omega
theorem le_pt (a b p w M : Int) (ha : -M ≤ a) (hb : -M ≤ b) (h0 : 0 ≤ p) (h1 : p ≤ w) : -(M * w) ≤ pt a b p w := by
  have := pt_le (-a) (-b) p w M (by omega) (by omega) h0 h1
  rw [pt_neg] at this; omega
theorem mul_size (M w : Int) (hM : 0 ≤ M) (hM1 : M ≤ 200000000) (h0 : 0 ≤ w) (h1 : w ≤ 20000) : 0 ≤ M * w ∧ M * w ≤ 4000000000000 := by
  refine ⟨Int.mul_nonneg hM h0, ?_⟩
  have e1 := Int.mul_le_mul_of_nonneg_right hM1 h0
  omega
theorem pt_size (a b p w : Int) (ha : -200000000 ≤ a) (ha2 : a ≤ 200000000) (hb : -200000000 ≤ b) (hb2 : b ≤ 200000000) (h0 : 0 ≤ p) (h1 : p ≤ w) (h2 : w ≤ 20000) : -4000000000000 ≤ pt a b p w ∧ pt a b p w ≤ 4000000000000 := by
  have := pt_le a b p w 200000000 ha2 hb2 h0 h1
  have := le_pt a b p w 200000000 ha hb h0 h1
  have := mul_size 200000000 w (by omega) (by omega) (by omega) h2
  omega

theorem nearI_of (c w : Int) (h : 0 < w) : nearI (c * w) w = c := by
  unfold nearI
  have e : 2 * (c * w) + w = (2 * c + 1) * w := by rw [Int.add_mul, Int.mul_assoc, Int.one_mul]
  rw [e, Int.mul_ediv_mul_of_pos_left _ _ h]
  omega
theorem nearI_mono (a b w : Int) (h : 0 < w) (hab : a ≤ b) : nearI a w ≤ nearI b w := Int.ediv_le_ediv (by omega) (by omega)
theorem ceilI_of (c w : Int) (h : 0 < w) : ceilI (c * w) w = c := by
  unfold ceilI
  rw [← Int.neg_mul, Int.mul_ediv_cancel _ (by omega)]; omega
theorem ceilI_mono (a b w : Int) (h : 0 < w) (hab : a ≤ b) : ceilI a w ≤ ceilI b w := by
  unfold ceilI
  have := Int.ediv_le_ediv h (show -b ≤ -a by omega)
  omega
theorem pt_end (a b w : Int) : pt a b w w = b * w := by unfold pt; rw [Int.sub_self, Int.mul_zero, Int.zero_add]
theorem pt_start (a b w : Int) : pt a b 0 w = a * w := by unfold pt; rw [Int.mul_zero, Int.add_zero, Int.sub_zero]
theorem nomS_end (A B : St) (i : Nat) (h : A.t < B.t) : nomS A B B.t i = cOf B i := by unfold nomS; rw [pt_end, nearI_of _ _ (by omega)]
theorem nomS_start (A B : St) (i : Nat) (h : A.t < B.t) : nomS A B A.t i = cOf A i := by unfold nomS; rw [Int.sub_self, pt_start, nearI_of _ _ (by omega)]
theorem loS_end (bend : Int) (A B : St) (i : Nat) (h : A.t < B.t) : loS bend A B B.t i = cOf B i - B.e := by
  unfold loS bendS
  rw [pt_end, Int.mul_ediv_cancel _ (by omega), if_pos (Or.inr rfl)]; omega
theorem loS_start (bend : Int) (A B : St) (i : Nat) (h : A.t < B.t) : loS bend A B A.t i = cOf A i - A.e := by
  unfold loS bendS
  rw [Int.sub_self, pt_start, Int.mul_ediv_cancel _ (by omega), if_pos (Or.inl rfl)]; omega
theorem hiS_end (bend : Int) (A B : St) (i : Nat) (h : A.t < B.t) : hiS bend A B B.t i = cOf B i + B.e := by
  unfold hiS bendS
  rw [pt_end, ceilI_of _ _ (by omega), if_pos (Or.inr rfl)]; omega
theorem hiS_start (bend : Int) (A B : St) (i : Nat) (h : A.t < B.t) : hiS bend A B A.t i = cOf A i + A.e := by
  unfold hiS bendS
  rw [Int.sub_self, pt_start, ceilI_of _ _ (by omega), if_pos (Or.inl rfl)]; omega

/-- the reference's arc: the last one -/
def arcR (L : List St) (t : Int) : Nat → Nat → Nat
  | 0, k => k
  | m + 1, k => if (gt L (k + 1)).t ≤ t then arcR L t m (k + 1) else k
/-- an arc that has a tick -/
structure InArc (L : List St) (t : Int) (k : Nat) : Prop where
  hk : k + 1 < L.length
  h0 : (gt L k).t ≤ t
  h1 : t ≤ (gt L (k + 1)).t
theorem InArc.two {b : Int} {L : List St} (h : Rt b L) {t : Int} {k r : Nat} (hk : InArc L t k) (hr : InArc L t r) (hkr : k < r) : r = k + 1 ∧ t = (gt L r).t := by
  have a1 := hk.h1; have a2 := hr.h0
  have hr2 := hr.hk
  have h3 := h.mono (r - (k + 1)) (k + 1) (by omega)
  rw [show k + 1 + (r - (k + 1)) = r from by omega] at h3
  have : r = k + 1 := by omega
  subst this
  exact ⟨rfl, by omega⟩
theorem nomS_arc {b : Int} {L : List St} (h : Rt b L) {t : Int} {k r : Nat} (hk : InArc L t k) (hr : InArc L t r) (i : Nat) : nomS (gt L k) (gt L (k + 1)) t i = nomS (gt L r) (gt L (r + 1)) t i := by
  have key : ∀ {k r : Nat}, InArc L t k → InArc L t r → k < r → nomS (gt L k) (gt L (k + 1)) t i = nomS (gt L r) (gt L (r + 1)) t i := by
    intro k r hk hr hlt
    obtain ⟨e1, e2⟩ := InArc.two h hk hr hlt
    subst e1
    rw [e2, nomS_end _ _ _ (h.asc k hk.hk), nomS_start _ _ _ (h.asc (k + 1) hr.hk)]
  rcases Nat.lt_trichotomy k r with hlt | rfl | hlt
  · exact key hk hr hlt
  · rfl
  · exact (key hr hk hlt).symm
theorem loS_arc {b : Int} {L : List St} (h : Rt b L) {t : Int} {k r : Nat} (hk : InArc L t k) (hr : InArc L t r) (i : Nat) : loS b (gt L k) (gt L (k + 1)) t i = loS b (gt L r) (gt L (r + 1)) t i := by
  have key : ∀ {k r : Nat}, InArc L t k → InArc L t r → k < r → loS b (gt L k) (gt L (k + 1)) t i = loS b (gt L r) (gt L (r + 1)) t i := by
    intro k r hk hr hlt
    obtain ⟨e1, e2⟩ := InArc.two h hk hr hlt
    subst e1
    rw [e2, loS_end _ _ _ _ (h.asc k hk.hk), loS_start _ _ _ _ (h.asc (k + 1) hr.hk)]
  rcases Nat.lt_trichotomy k r with hlt | rfl | hlt
  · exact key hk hr hlt
  · rfl
  · exact (key hr hk hlt).symm
theorem hiS_arc {b : Int} {L : List St} (h : Rt b L) {t : Int} {k r : Nat} (hk : InArc L t k) (hr : InArc L t r) (i : Nat) : hiS b (gt L k) (gt L (k + 1)) t i = hiS b (gt L r) (gt L (r + 1)) t i := by
  have key : ∀ {k r : Nat}, InArc L t k → InArc L t r → k < r → hiS b (gt L k) (gt L (k + 1)) t i = hiS b (gt L r) (gt L (r + 1)) t i := by
    intro k r hk hr hlt
    obtain ⟨e1, e2⟩ := InArc.two h hk hr hlt
    subst e1
    rw [e2, hiS_end _ _ _ _ (h.asc k hk.hk), hiS_start _ _ _ _ (h.asc (k + 1) hr.hk)]
  rcases Nat.lt_trichotomy k r with hlt | rfl | hlt
  · exact key hk hr hlt
  · rfl
  · exact (key hr hk hlt).symm

/-- THE PLACE AND THE BOX AT A TICK -/
def nomC (L : List St) (t : Int) (i : Nat) : Int := nomS (gt L (arcP L t)) (gt L (arcP L t + 1)) t i
def loC (b : Int) (L : List St) (t : Int) (i : Nat) : Int := loS b (gt L (arcP L t)) (gt L (arcP L t + 1)) t i
def hiC (b : Int) (L : List St) (t : Int) (i : Nat) : Int := hiS b (gt L (arcP L t)) (gt L (arcP L t + 1)) t i
theorem inArc {b : Int} {L : List St} (h : Rt b L) (t : Int) (h1 : fst L ≤ t) (h2 : t ≤ lst L) : InArc L t (arcP L t) :=
  let ⟨a, b, c⟩ := arcP_in h t h1 h2
  ⟨c, a, b⟩

/-- what two states of an arc, and a tick between them, are -/
structure Arc (A B : St) (t : Int) : Prop where
  ha : StOk A
  hb : StOk B
  h0 : A.t ≤ t
  h1 : t ≤ B.t
  hw : A.t < B.t
  hw2 : B.t - A.t ≤ 20000
theorem InArc.arc {b : Int} {L : List St} (h : Rt b L) {t : Int} {k : Nat} (hk : InArc L t k) : Arc (gt L k) (gt L (k + 1)) t := by
  have a1 := h.arc (k + 1) hk.hk
  have a2 := h.le 0 k (Nat.zero_le _) (by have := hk.hk; omega)
  exact ⟨h.st k (by have := hk.hk; omega), h.st (k + 1) hk.hk, hk.h0, hk.h1, h.asc k hk.hk, by omega⟩
theorem Arc.nom {A B : St} {t : Int} (h : Arc A B t) (i : Nat) : -100000000 ≤ nomS A B t i ∧ nomS A B t i ≤ 100000000 := by
  obtain ⟨ha, hb, h0, h1, hw, hw2⟩ := h
  have ca := cOf_bd ha i; have cb := cOf_bd hb i
  have p1 := pt_le (cOf A i) (cOf B i) (t - A.t) (B.t - A.t) 100000000 ca.2 cb.2 (by omega) (by omega)
  have p2 := le_pt (cOf A i) (cOf B i) (t - A.t) (B.t - A.t) 100000000 ca.1 cb.1 (by omega) (by omega)
  unfold nomS
  have q1 := nearI_mono _ _ (B.t - A.t) (by omega) p1
  have q2 := nearI_mono _ _ (B.t - A.t) (by omega) p2
  rw [nearI_of _ _ (by omega)] at q1
  rw [← Int.neg_mul, nearI_of _ _ (by omega)] at q2
  omega
theorem bendS_bd (b : Int) (A B : St) (t : Int) (h0 : 0 ≤ b) : 0 ≤ bendS b A B t ∧ bendS b A B t ≤ b := by
  unfold bendS; split <;> omega
/-- the nominal place lies in the box -/
theorem Arc.between {A B : St} {t : Int} (h : Arc A B t) (b : Int) (hb0 : 0 ≤ b) (i : Nat) : loS b A B t i ≤ nomS A B t i ∧ nomS A B t i ≤ hiS b A B t i := by
  obtain ⟨ha, hb, h0, h1, hw, hw2⟩ := h
  obtain ⟨c1, c2⟩ := bendS_bd b A B t hb0
  have ae := ha.e0; have be := hb.e0
  unfold loS hiS nomS
  generalize hwd : B.t - A.t = w
  generalize hpd : t - A.t = p
  have p1 : pt (cOf A i - A.e) (cOf B i - B.e) p w ≤ pt (cOf A i) (cOf B i) p w := by
    unfold pt
    have e1 := Int.mul_le_mul_of_nonneg_right (show cOf A i - A.e ≤ cOf A i by omega) (show 0 ≤ w - p by omega)
    have e2 := Int.mul_le_mul_of_nonneg_right (show cOf B i - B.e ≤ cOf B i by omega) (show 0 ≤ p by omega)
    omega
  have p2 : pt (cOf A i) (cOf B i) p w ≤ pt (cOf A i + A.e) (cOf B i + B.e) p w := by
    unfold pt
    have e1 := Int.mul_le_mul_of_nonneg_right (show cOf A i ≤ cOf A i + A.e by omega) (show 0 ≤ w - p by omega)
    have e2 := Int.mul_le_mul_of_nonneg_right (show cOf B i ≤ cOf B i + B.e by omega) (show 0 ≤ p by omega)
    omega
  generalize pt (cOf A i) (cOf B i) p w = n at *
  have hw0 : 0 < w := by omega
  have f1 := Int.ediv_le_ediv hw0 p1
  have f2 := ceilI_mono _ _ w hw0 p2
  have g1 : n / w ≤ nearI n w := by
    unfold nearI
    have : n / w = (2 * n) / (2 * w) := (Int.mul_ediv_mul_of_pos _ _ (by omega)).symm
    rw [this]
    exact Int.ediv_le_ediv (by omega) (by omega)
  have g2 : nearI n w ≤ ceilI n w := by
    unfold nearI ceilI
    have hd := Int.emod_add_mul_ediv (-n) w
    have hd0 := Int.emod_nonneg (-n) (show w ≠ 0 by omega)
    have hd1 := Int.emod_lt_of_pos (-n) hw0
    generalize -n / w = q at *
    have : (2 * n + w) / (2 * w) < -q + 1 := by
      refine Int.ediv_lt_of_lt_mul (by omega) ?_
      have : (-q + 1) * (2 * w) = 2 * w - 2 * (w * q) := by
        rw [Int.add_mul, Int.neg_mul, Int.one_mul, Int.mul_comm q, Int.mul_assoc]; omega
      omega
    omega
  omega
theorem Arc.size {A B : St} {t : Int} (h : Arc A B t) (b : Int) (hb0 : 0 ≤ b) (hb1 : b ≤ 100000) (i : Nat) : -100200000 ≤ loS b A B t i ∧ hiS b A B t i ≤ 100200000 := by
  obtain ⟨ha, hb, h0, h1, hw, hw2⟩ := h
  obtain ⟨c1, c2⟩ := bendS_bd b A B t hb0
  have ca := cOf_bd ha i; have cb := cOf_bd hb i
  have ae := ha.e0; have be := hb.e0; have ae1 := ha.e1; have be1 := hb.e1
  have p1 := le_pt (cOf A i - A.e) (cOf B i - B.e) (t - A.t) (B.t - A.t) 100100000 (by omega) (by omega) (by omega) (by omega)
  have p2 := pt_le (cOf A i + A.e) (cOf B i + B.e) (t - A.t) (B.t - A.t) 100100000 (by omega) (by omega) (by omega) (by omega)
  unfold loS hiS
  have hw0 : 0 < B.t - A.t := by omega
  have q1 := Int.ediv_le_ediv hw0 p1
  rw [← Int.neg_mul, Int.mul_ediv_cancel _ (by omega)] at q1
  have q2 := ceilI_mono _ _ _ hw0 p2
  rw [ceilI_of _ _ hw0] at q2
  omega

end Go.Proofs.Ytmbolmmcfnfamaa.Orb
