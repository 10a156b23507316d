import Derived.Test.YtmiaglkkjncfnaaDoorKc
import Derived.Test.YtmiaglkkjncfnaaDoorOa
namespace Go.Proofs.YtmiaglkkjncfnaaDoor
open Go.RowKit Go.Proofs.YtmiaglkkjncfnaaDoor.Flt

@[go_sem] theorem run_f32bits (x : Nat) (w : World) : (callFunc 70 #[.float .f32 x]).run Tryd.prog w = .ok (.value (.int .u32 x)) w := by kernel_rfl

set_option maxRecDepth 100000 in
set_option maxHeartbeats 1000000 in
/-- TWO EQUAL LISTS OF SAMPLES -/
theorem SameSamples_true (va vb : Value) (zs : List (Nat × Nat)) (w : World) (ha : Sl w va (cvals .f32 zs)) (hb : Sl w vb (cvals .f32 zs)) :
    Calls Tryd.prog 51 #[va, vb] w fun e w' => e = .returned (.bool true) ∧ ∃ q, w' = w.drewN q := by
  have hha := ha
  have hhb := hb
  obtain ⟨aa, ac, rfl, hla, -⟩ := ha
  obtain ⟨ba, bc, rfl, hlb, -⟩ := hb
  obtain ⟨n, hn⟩ : ∃ n, n = (cvals .f32 zs).length := ⟨_, rfl⟩
  rw [← hn] at hla hlb hha hhb ⊢
  have hn' : n = zs.length := by rw [hn]; simp [cvals]
  have HA := Lib.hid hha
  have HB := Lib.hid hhb
  have HN := Lib.hid hn'
  clear hha hhb hn hn'
  go_enter Tryd.func51, Tryd.ntmps51
  go_wp2_with fail
  go_loopw [5] (fun i wr => ∃ k : Nat, k ≤ n ∧ i = .int .i64 k ∧ ∃ q, wr = w.drewN q) (fun i _ => n - (intOf i).toNat)
  case atStart => exact ⟨0, Nat.zero_le _, rfl, 0, rfl⟩
  case round =>
    obtain ⟨k, hk, rfl, q, rfl⟩ := hrel
    by_cases hlt : k < n
    · obtain ⟨-, b1, o1, rfl, -, h1⟩ := HA.out.at (by omega)
      obtain ⟨-, b2, o2, rfl, -, h2⟩ := HB.out.at (by omega)
      have c1 := h1 k _ (cvals_get (by have := HN.out; omega))
      have c2 := h2 k _ (cvals_get (by have := HN.out; omega))
      generalize (zs.getD k (0, 0)).1 = x at *
      generalize (zs.getD k (0, 0)).2 = y at *
      clear h1 h2 HA HB
      go_wp2_with fail
      go_quiet (fail)
      go_wp2_with fail
      go_roundw
      case rel => exact ⟨k + 1, by omega, by go_num, _, rfl⟩
      case measure => simp [intOf]; omega
    · go_wp2_with fail
      go_ret
      exact ⟨rfl, _, rfl⟩

set_option maxRecDepth 100000 in
set_option maxHeartbeats 1000000 in
/-- TWO EQUAL IMAGES -/
theorem SameImage_true (l s : Int) (va vb : Value) (zs : List (Nat × Nat)) (w : World) (ha : Sl w va (cvals .f32 zs)) (hb : Sl w vb (cvals .f32 zs)) :
    Calls Tryd.prog 21 #[.agg #[.int .i64 l, .int .i64 s, va], .agg #[.int .i64 l, .int .i64 s, vb]] w fun e w' => e = .returned (.bool true) ∧ Below w.heap.size w w' := by
  have C := Lib.hid (fun w' (h : Below w.heap.size w w') => SameSamples_true va vb zs w' (ha.below h (Nat.le_refl _)) (hb.below h (Nat.le_refl _)))
  obtain ⟨aa, ac, rfl, -, -⟩ := ha
  obtain ⟨ba, bc, rfl, -, -⟩ := hb
  go_enter Tryd.func21, Tryd.ntmps21
  go_wp2_with fail
  refine (C.out _ (((Below.refl _ _).alloc (Nat.le_refl _) _).alloc (by simp) _)).mono ?_
  rintro e w' ⟨rfl, q, rfl⟩
  go_wp2_with fail
  go_ret
  exact ⟨rfl, (((Below.refl _ _).alloc (Nat.le_refl _) _).alloc (by simp) _).trans (below_drewN' _ _ _)⟩

set_option maxRecDepth 100000 in
theorem noImage_true (w : World) : Calls Tryd.prog 20 #[.agg #[.int .i64 0, .int .i64 0, .slice none 0 0]] w fun e w' => e = .returned (.bool true) ∧ Below w.heap.size w w' := by
  go_enter Tryd.func20, Tryd.ntmps20
  go_wp2_with fail
  go_ret
  exact ⟨rfl, (Below.refl _ _).alloc (Nat.le_refl _) _⟩

/-- has the place t a source, moved by a lines and b samples? which one? -/
def shSrc (L S : Nat) (a b : Int) (t : Nat) : Option Nat :=
  if 0 ≤ (t / S : Nat) - a ∧ ((t / S : Nat) : Int) - a < L ∧ 0 ≤ ((t % S : Nat) : Int) - b ∧ ((t % S : Nat) : Int) - b < S then some (((t / S : Nat) - a).toNat * S + (((t % S : Nat) : Int) - b).toNat) else none
/-- where the sample k goes -/
def shDst (L S : Nat) (a b : Int) (k : Nat) : Option Nat :=
  if 0 ≤ ((k / S : Nat) : Int) + a ∧ ((k / S : Nat) : Int) + a < L ∧ 0 ≤ ((k % S : Nat) : Int) + b ∧ ((k % S : Nat) : Int) + b < S then some ((((k / S : Nat) : Int) + a).toNat * S + (((k % S : Nat) : Int) + b).toNat) else none
/-- the samples of an image as they are moved, of its first k ones -/
def shAt (zs : List (Nat × Nat)) (L S : Nat) (a b : Int) (k t : Nat) : Nat × Nat :=
  match shSrc L S a b t with
  | some j => if j < k then (enc Ieee.single (re .f32 zs j), enc Ieee.single (im .f32 zs j)) else (0, 0)
  | none => (0, 0)

theorem div_mod_mk {q r S : Nat} (hr : r < S) : (q * S + r) / S = q ∧ (q * S + r) % S = r := by
  constructor
  · rw [Nat.mul_comm, Nat.mul_add_div (by omega), Nat.div_eq_of_lt hr, Nat.add_zero]
  · rw [Nat.mul_comm, Nat.mul_add_mod, Nat.mod_eq_of_lt hr]
/-- sources and goals are each other's -/
theorem sh_pair {L S : Nat} {a b : Int} {k t : Nat} (hS : 0 < S) (hk : k < L * S) (ht : t < L * S) : shSrc L S a b t = some k ↔ shDst L S a b k = some t := by
  have k1 : k / S < L := (Nat.div_lt_iff_lt_mul hS).2 hk
  have k2 : k % S < S := Nat.mod_lt _ hS
  have t1 : t / S < L := (Nat.div_lt_iff_lt_mul hS).2 ht
  have t2 : t % S < S := Nat.mod_lt _ hS
  have ek : k / S * S + k % S = k := by rw [Nat.mul_comm]; exact Nat.div_add_mod k S
  have et : t / S * S + t % S = t := by rw [Nat.mul_comm]; exact Nat.div_add_mod t S
  unfold shSrc shDst
  generalize k / S = kq at *
  generalize k % S = kr at *
  generalize t / S = tq at *
  generalize t % S = tr at *
  constructor
  · intro h
    split at h
    · rename_i hc
      injection h with h
      obtain ⟨d1, d2⟩ := div_mod_mk (q := ((tq : Int) - a).toNat) (r := ((tr : Int) - b).toNat) (S := S) (by omega)
      obtain ⟨e1, e2⟩ := div_mod_mk (q := kq) (r := kr) (S := S) k2
      rw [h] at d1 d2
      rw [ek] at e1 e2
      have f1 : kq = ((tq : Int) - a).toNat := by rw [← e1, d1]
      have f2 : kr = ((tr : Int) - b).toNat := by rw [← e2, d2]
      rw [if_pos (by omega), ← et]
      congr 2
      · congr 1; omega
      · omega
    · cases h
  · intro h
    split at h
    · rename_i hc
      injection h with h
      obtain ⟨d1, d2⟩ := div_mod_mk (q := ((kq : Int) + a).toNat) (r := ((kr : Int) + b).toNat) (S := S) (by omega)
      obtain ⟨e1, e2⟩ := div_mod_mk (q := tq) (r := tr) (S := S) t2
      rw [h] at d1 d2
      rw [et] at e1 e2
      have f1 : tq = ((kq : Int) + a).toNat := by rw [← e1, d1]
      have f2 : tr = ((kr : Int) + b).toNat := by rw [← e2, d2]
      rw [if_pos (by omega), ← ek]
      congr 2
      · congr 1; omega
      · omega
    · cases h
theorem shDst_lt {L S : Nat} {a b : Int} {k d : Nat} (h : shDst L S a b k = some d) : d < L * S := by
  unfold shDst at h
  split at h
  · rename_i hc
    injection h with h
    rw [← h]
    obtain ⟨h1, h2, h3, h4⟩ := hc
    generalize ((k / S : Nat) : Int) + a = x at *
    generalize ((k % S : Nat) : Int) + b = y at *
    have hx : x.toNat < L := by omega
    have hy : y.toNat < S := by omega
    have : x.toNat * S + S ≤ L * S := by rw [← Nat.succ_mul]; exact Nat.mul_le_mul_right _ hx
    omega
  · cases h
theorem shAt_zero (zs : List (Nat × Nat)) (L S : Nat) (a b : Int) (t : Nat) : shAt zs L S a b 0 t = (0, 0) := by
  unfold shAt
  split
  · rw [if_neg (by omega)]
  · rfl
theorem shAt_step (zs : List (Nat × Nat)) {L S : Nat} {a b : Int} {k t : Nat} (hS : 0 < S) (hk : k < L * S) (ht : t < L * S) :
    shAt zs L S a b (k + 1) t = if shDst L S a b k = some t then (enc Ieee.single (re .f32 zs k), enc Ieee.single (im .f32 zs k)) else shAt zs L S a b k t := by
  have hp := sh_pair (a := a) (b := b) hS hk ht
  unfold shAt
  cases hs : shSrc L S a b t with
  | none =>
    have : ¬ shDst L S a b k = some t := fun h => by rw [hp.2 h] at hs; cases hs
    rw [if_neg this]
  | some j =>
    dsimp only
    by_cases hj : j = k
    · subst hj
      rw [if_pos (by omega), if_pos (hp.1 hs)]
    · have : ¬ shDst L S a b k = some t := fun h => by rw [hp.2 h] at hs; injection hs with hs; exact hj hs.symm
      rw [if_neg this]
      by_cases h : j < k
      · rw [if_pos h, if_pos (by omega)]
      · rw [if_neg h, if_neg (by omega)]
end Go.Proofs.YtmiaglkkjncfnaaDoor
