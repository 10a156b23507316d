import Derived.Test.YtmbolmmcfnfamaaYn
import Derived.Test.YtmbolmmcfnfamaaSx
import Derived.Laws.IdiomArrays
namespace Go.Proofs.Ytmbolmmcfnfamaa.Orb
open Go.ChangeShapes Go.WideShapes Go.ChangeAt Go.RowKit

/-! where the satellite is said to be in its boxes -/
def atI (lo hi : Nat → Int) (part : Nat → Int) (i : Nat) : Int := lo i + ((hi i - lo i) * (part i % 1001)) / 1000
theorem atI_in (lo hi part : Nat → Int) (i : Nat) (h : lo i ≤ hi i) : lo i ≤ atI lo hi part i ∧ atI lo hi part i ≤ hi i := by
  unfold atI
  have h1 : 0 ≤ part i % 1001 := Int.emod_nonneg _ (by decide)
  have h2 : part i % 1001 ≤ 1000 := by have := Int.emod_lt_of_pos (part i) (show (0 : Int) < 1001 by decide); omega
  have h3 : 0 ≤ (hi i - lo i) * (part i % 1001) := Int.mul_nonneg (by omega) h1
  have h4 : (hi i - lo i) * (part i % 1001) ≤ (hi i - lo i) * 1000 := Int.mul_le_mul_of_nonneg_left h2 (by omega)
  generalize (hi i - lo i) * (part i % 1001) = X at *
  omega
/-- the square of the distance so far -/
def sqA (A c : Nat → Int) : Nat → Int
  | 0 => 0
  | k + 1 => sqA A c k + (A k - c k) * (A k - c k)
theorem sqA_in {lo hi A c : Nat → Int} (h : ∀ i, i < 3 → lo i ≤ A i ∧ A i ≤ hi i) : ∀ k, k ≤ 3 → sqLo lo hi c k ≤ sqA A c k ∧ sqA A c k ≤ sqHi lo hi c k
  | 0, _ => ⟨Int.le_refl _, Int.le_refl _⟩
  | k + 1, hk => by
    have ih := sqA_in (c := c) h k (by omega)
    obtain ⟨h1, h2⟩ := h k (by omega)
    have n1 : near1 (lo k) (hi k) (c k) * near1 (lo k) (hi k) (c k) ≤ (A k - c k) * (A k - c k) := near_sq (lo k) (hi k) (A k) (c k) h1 h2
    have n2 : (A k - c k) * (A k - c k) ≤ far1 (lo k) (hi k) (c k) * far1 (lo k) (hi k) (c k) := far_sq (lo k) (hi k) (A k) (c k) h1 h2
    show sqLo lo hi c k + near1 (lo k) (hi k) (c k) * near1 (lo k) (hi k) (c k) ≤ sqA A c k + (A k - c k) * (A k - c k) ∧ sqA A c k + (A k - c k) * (A k - c k) ≤ sqHi lo hi c k + far1 (lo k) (hi k) (c k) * far1 (lo k) (hi k) (c k)
    omega
/-- the first tick at which it is nearest, as the law seeks it -/
def bestF (S : Int → Int) (l : List Int) : Int × Int := l.foldl (fun a t => if a.2 < 0 ∨ S t < a.2 then (t, S t) else a) (0, -1)
theorem bestF_snoc (S : Int → Int) (l : List Int) (t : Int) : bestF S (l ++ [t]) = if (bestF S l).2 < 0 ∨ S t < (bestF S l).2 then (t, S t) else bestF S l := by unfold bestF; rw [List.foldl_append]; rfl
theorem bestF_is (S : Int → Int) (l : List Int) (h0 : ∀ t ∈ l, 0 ≤ S t) (hl : l ≠ []) : (bestF S l).1 ∈ l ∧ ∀ t ∈ l, S (bestF S l).1 ≤ S t := by
  have key : ∀ (l : List Int) (m : List Int) (a : Int × Int), (∀ t ∈ l, 0 ≤ S t) → ((m = [] ∧ a.2 < 0) ∨ (m ≠ [] ∧ a.1 ∈ m ∧ a.2 = S a.1 ∧ 0 ≤ a.2 ∧ ∀ t ∈ m, a.2 ≤ S t)) →
      ((m ++ l = [] ∧ (l.foldl (fun a t => if a.2 < 0 ∨ S t < a.2 then (t, S t) else a) a).2 < 0) ∨ (m ++ l ≠ [] ∧ (l.foldl (fun a t => if a.2 < 0 ∨ S t < a.2 then (t, S t) else a) a).1 ∈ m ++ l ∧ (l.foldl (fun a t => if a.2 < 0 ∨ S t < a.2 then (t, S t) else a) a).2 = S (l.foldl (fun a t => if a.2 < 0 ∨ S t < a.2 then (t, S t) else a) a).1 ∧ 0 ≤ (l.foldl (fun a t => if a.2 < 0 ∨ S t < a.2 then (t, S t) else a) a).2 ∧ ∀ t ∈ m ++ l, (l.foldl (fun a t => if a.2 < 0 ∨ S t < a.2 then (t, S t) else a) a).2 ≤ S t)) := by
    intro l
    induction l with
    | nil => intro m a _ h; simpa using h
    | cons t r ih =>
      intro m a h0 h
      rw [List.foldl_cons, show m ++ t :: r = (m ++ [t]) ++ r from by simp]
      refine ih (m ++ [t]) _ (fun u hu => h0 u (List.mem_cons_of_mem _ hu)) (.inr ?_)
      have ht := h0 t (List.mem_cons_self ..)
      refine ⟨by simp, ?_⟩
      by_cases hc : a.2 < 0 ∨ S t < a.2
      · rw [if_pos hc]
        refine ⟨by simp, rfl, ht, fun u hu => ?_⟩
        rcases List.mem_append.1 hu with hu | hu
        · rcases h with ⟨h1, -⟩ | ⟨-, -, -, h2, h3⟩
          · rw [h1] at hu; cases hu
          · have := h3 u hu
            show S t ≤ S u
            omega
        · simp at hu; subst hu; exact Int.le_refl _
      · rw [if_neg hc]
        rcases h with ⟨-, h1⟩ | ⟨-, h1, h2, h3, h4⟩
        · exact absurd (.inl h1) hc
        · refine ⟨by simp [h1], h2, h3, fun u hu => ?_⟩
          rcases List.mem_append.1 hu with hu | hu
          · exact h4 u hu
          · simp at hu; subst hu; omega
  rcases key l [] (0, -1) h0 (.inl ⟨rfl, by decide⟩) with ⟨h1, -⟩ | ⟨-, h1, h2, -, h3⟩
  · exact absurd (by simpa using h1) hl
  · simp only [List.nil_append] at h1 h3
    exact ⟨h1, fun t ht => by rw [show S (bestF S l).1 = (bestF S l).2 from h2.symm]; exact h3 t ht⟩
/-- SURELY AMONG THEM -/
theorem surely {bend : Int} {L : List St} {x y z lo hi wt : Int} (hR : Rt bend L) (hc : (chR bend L x y z lo hi wt).2 = 0) (S : Int → Int)
    (hS : ∀ t, fst L ≤ t → t ≤ lst L → sLo bend L x y z t ≤ S t ∧ S t ≤ sHi bend L x y z t ∧ 0 ≤ S t) :
    (lo ≤ (bestF S (ticksOf (fst L) (nTicks L))).1 ∧ (bestF S (ticksOf (fst L) (nTicks L))).1 ≤ hi) ∧ (chR bend L x y z lo hi wt).1 = hi - lo + 1 ∧ lo ≤ hi ∧ (0 ≤ lo ∧ hi ≤ 1000000000) := by
  have n0 := hR.n0
  have hlo : 0 ≤ fst L := (hR.st 0 (by omega)).t0
  have hhi : lst L ≤ 1000000000 := (hR.st (L.length - 1) (by omega)).t1
  have hle : fst L ≤ lst L := hR.le 0 (L.length - 1) (Nat.zero_le _) (by omega)
  have hnt : (nTicks L : Int) = lst L - fst L + 1 := by unfold nTicks; omega
  have hin : ∀ t, t ∈ ticksOf (fst L) (nTicks L) ↔ fst L ≤ t ∧ t ≤ lst L := by
    intro t
    constructor
    · intro ht
      obtain ⟨i, hi, rfl⟩ := List.mem_map.1 ht
      have := List.mem_range.1 hi
      omega
    · intro ⟨a, b⟩
      exact List.mem_map.2 ⟨(t - fst L).toNat, List.mem_range.2 (by omega), by omega⟩
  unfold chR at hc ⊢
  by_cases h1 : (fst L ≤ lo ∧ lo ≤ lst L) ∧ (fst L ≤ hi ∧ hi ≤ lst L) ∧ (fst L ≤ wt ∧ wt ≤ lst L)
  · rw [if_pos h1] at hc ⊢
    by_cases h2 : hi < lo
    · rw [if_pos h2] at hc; cases hc
    · rw [if_neg h2] at hc ⊢
      cases h3 : outB (sLo bend L x y z) (sHi bend L x y z wt) lo hi (ticksOf (fst L) (nTicks L)) with
      | true => rw [h3, if_pos rfl] at hc; cases hc
      | false =>
        rw [if_neg (by simp)]
        refine ⟨?_, rfl, by omega, by omega, by omega⟩
        have hne : ticksOf (fst L) (nTicks L) ≠ [] := by
          intro h
          have := (hin (fst L)).2 ⟨Int.le_refl _, hle⟩
          rw [h] at this; cases this
        obtain ⟨b1, b2⟩ := bestF_is S (ticksOf (fst L) (nTicks L)) (fun t ht => (hS t ((hin t).1 ht).1 ((hin t).1 ht).2).2.2) hne
        have b3 := b2 wt ((hin wt).2 h1.2.2)
        have b4 := hS _ ((hin _).1 b1).1 ((hin _).1 b1).2
        have b5 := hS wt h1.2.2.1 h1.2.2.2
        by_cases h4 : lo ≤ (bestF S (ticksOf (fst L) (nTicks L))).1 ∧ (bestF S (ticksOf (fst L) (nTicks L))).1 ≤ hi
        · exact h4
        · have := outB_false h3 _ b1 (by omega)
          omega
  · rw [if_neg h1] at hc; cases hc

section
variable {H : Type} {enc : TypeId × Value → H} {W : World} {base base' : Nat} {sp : Nat → Bool} {held : Bool}
/-- parts that a call is handed -/
def Parts (W : World) (v : Value) (np : Nat) (part : Nat → Nat → Int) : Prop :=
  ∃ a cap, v = .slice a np cap ∧ cap ≤ 9223372036854775807 ∧ np ≤ cap ∧ (0 < np → ∃ b o, a = some ⟨b, o, none⟩ ∧ ∀ i, i < np → W.cell? ⟨b, o + i * 3, none⟩ = some (.int .i64 (part i 0)) ∧ W.cell? ⟨b, o + i * 3 + 1, none⟩ = some (.int .i64 (part i 1)) ∧ W.cell? ⟨b, o + i * 3 + 2, none⟩ = some (.int .i64 (part i 2)))
theorem cells_a : Try.prog.cellsOf 57 = 3 := by kernel_rfl
theorem cells_o : Try.prog.cellsOf 24 = 3 := by kernel_rfl
theorem cells_str : Try.prog.cellsOf 9 = 1 := by kernel_rfl
theorem cells_sl : Try.prog.cellsOf 22 = 1 := by kernel_rfl
theorem cells_sp : Try.prog.cellsOf 56 = 1 := by kernel_rfl
set_option maxRecDepth 100000 in
theorem parts_of {n : Nat} {v : Value} {y : DataW H × List MemPlace} (h : DataW.trod enc Try.prog W base sp held n 56 [v] = some y) : ∃ np part, Parts W v np part := by
  rcases Deep.open_slice Try.underlying56 h with ⟨hc, -⟩ | ⟨a, len, cap, m, n', D, Pl, hc, -, hl, hm, hmm, -, hx⟩
  · obtain rfl : v = .slice none 0 0 := by simpa using hc
    exact ⟨0, fun _ _ => 0, none, 0, rfl, by decide, Nat.le_refl _, fun h => absurd h (by decide)⟩
  · obtain rfl : v = .slice (some a) len cap := by simpa using hc
    rw [cells_a] at hx
    have hlm : len ≤ m := by rw [hmm]; split <;> omega
    obtain ⟨S, hS⟩ := Deep.choose_lt (α := Nat → Int) (n := len) (p := fun i s => ∀ j u, ([.int .i64 (s 0), .int .i64 (s 1), .int .i64 (s 2)] : List Value)[j]? = some u → W.cell? (a.add (i * 3 + j)) = some u) (fun i hi => by
      obtain ⟨cs', g1, g2⟩ := hx i (by omega)
      obtain ⟨-, hlen, g3⟩ := World.cells?_some g1
      match cs', hlen with
      | [c0, c1, c2], _ =>
        obtain ⟨y0, y1, y2, n2, -, q0, q1, q2⟩ := trod_array3 Try.underlying57 (by kernel_rfl) g2
        obtain ⟨x1, e1, -, -⟩ := DataW.trod_int Try.underlying3 q0
        obtain ⟨x2, e2, -, -⟩ := DataW.trod_int Try.underlying3 q1
        obtain ⟨x3, e3, -, -⟩ := DataW.trod_int Try.underlying3 q2
        simp at e1 e2 e3
        refine ⟨fun j => if j = 0 then x1 else if j = 1 then x2 else x3, fun j u hu => ?_⟩
        have hj : j < 3 := by
          rcases Nat.lt_or_ge j 3 with h | h
          · exact h
          · rw [List.getElem?_eq_none (by simpa using h)] at hu; cases hu
        rw [← Addr.add_add, g3 j hj, ← hu, e1, e2, e3]
        match j, hj with
        | 0, _ => rfl
        | 1, _ => rfl
        | 2, _ => rfl)
    refine ⟨len, S, some a, cap, rfl, hm, hl, fun h0 => ?_⟩
    obtain ⟨b, off, spot⟩ := a
    have hspot : spot = none := by simpa [Addr.add] using World.cell?_spot (hS 0 h0 0 _ rfl)
    subst hspot
    refine ⟨b, off, rfl, fun i hi => ?_⟩
    have h := hS i hi
    simp only [add_none] at h
    exact ⟨h 0 _ rfl, h 1 _ rfl, h 2 _ rfl⟩

set_option maxRecDepth 100000 in
theorem states_of (nm : ByteArray) (bend : Int) {n : Nat} {v2 : Value} {y2 : DataW H × List MemPlace} (h2 : DataW.trod enc Try.prog W base sp held n 22 [v2] = some y2) :
    ∃ L, OV W (.agg #[.string nm, .int .i64 bend, v2]) nm bend L ∧ ∀ k, (gt L k).t ≤ 9223372036854775807 := by
  rcases Deep.open_slice Try.underlying22 h2 with ⟨hc, -⟩ | ⟨a, len, cap, m, n', D, Pl, hc, -, hl, hm, hmm, -, hx⟩
  · obtain rfl : v2 = .slice none 0 0 := by simpa using hc
    refine ⟨[], ⟨⟨none, 0, rfl, Nat.zero_le _, by decide, fun h => absurd h (by decide)⟩, fun a c n cap e => ?_⟩, fun k => (by decide : (0 : Int) ≤ 9223372036854775807)⟩
    simp at e
    omega
  · obtain rfl : v2 = .slice (some a) len cap := by simpa using hc
    rw [cells_s] at hx
    have hlm : len ≤ m := by rw [hmm]; split <;> omega
    obtain ⟨S, hS⟩ := Deep.choose_lt (α := St) (n := len) (p := fun i s => (∀ j u, ([.int .i64 s.t, .int .i64 s.x, .int .i64 s.y, .int .i64 s.z, .int .i64 s.e] : List Value)[j]? = some u → W.cell? (a.add (i * 5 + j)) = some u) ∧ s.t ≤ 9223372036854775807) (fun i hi => by
      obtain ⟨cs', g1, g2⟩ := hx i (by omega)
      obtain ⟨s, rfl, hs⟩ := state_of g2
      obtain ⟨-, -, g3⟩ := World.cells?_some g1
      refine ⟨s, fun j u hu => ?_, hs⟩
      have hj : j < 5 := by
        rcases Nat.lt_or_ge j 5 with h | h
        · exact h
        · rw [List.getElem?_eq_none (by simpa using h)] at hu; cases hu
      rw [← Addr.add_add, g3 j hj, hu])
    have hg : ∀ k, k < len → gt ((List.range len).map S) k = S k := fun k hk => by
      unfold gt
      rw [List.getD_eq_getElem?_getD, List.getElem?_map, List.getElem?_range hk]; rfl
    have hm2 : cap ≤ 9223372036854775807 := hm
    refine ⟨(List.range len).map S, ⟨⟨some a, cap, by simp, by simpa using hl, hm2, fun h0 => ?_⟩, fun a c n cap e => by simp at e⟩, fun k => ?_⟩
    · have h0 : 0 < len := by simpa using h0
      obtain ⟨b, off, spot⟩ := a
      have hspot : spot = none := by simpa [Addr.add] using World.cell?_spot ((hS 0 h0).1 0 _ rfl)
      subst hspot
      refine ⟨b, off, rfl, fun k hk => ?_⟩
      have hk : k < len := by simpa using hk
      rw [hg k hk]
      have h := (hS k hk).1
      simp only [add_none] at h
      exact ⟨h 0 _ rfl, h 1 _ rfl, h 2 _ rfl, h 3 _ rfl, h 4 _ rfl⟩
    · rcases Nat.lt_or_ge k len with hk | hk
      · rw [hg k hk]; exact (hS k hk).2
      · unfold gt
        rw [List.getD_eq_getElem?_getD, List.getElem?_eq_none (by simpa using hk)]
        exact (by decide : (0 : Int) ≤ 9223372036854775807)

end
end Go.Proofs.Ytmbolmmcfnfamaa.Orb
