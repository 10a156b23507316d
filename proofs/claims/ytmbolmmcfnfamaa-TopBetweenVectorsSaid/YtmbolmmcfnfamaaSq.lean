import Derived.Test.YtmbolmmcfnfamaaSp
import Derived.Outline
namespace Go.Proofs.Ytmbolmmcfnfamaa.Orb
open Go.RowKit Lib

theorem rvI_get (L : List (Int × Int)) (i : Nat) (h : i < L.length) : (rvI L)[2 * i]? = some (.int .i64 (L.getD i (0, 0)).1) ∧ (rvI L)[2 * i + 1]? = some (.int .i64 (L.getD i (0, 0)).2) := by
  induction L generalizing i with
  | nil => cases h
  | cons p r ih =>
    rw [show rvI (p :: r) = [.int .i64 p.1, .int .i64 p.2] ++ rvI r from rfl]
    cases i with
    | zero => exact ⟨rfl, rfl⟩
    | succ i =>
      have := ih i (by simpa using h)
      rw [show 2 * (i + 1) = 2 * i + 1 + 1 from by omega]
      exact this
theorem rvI_lo (L : List (Int × Int)) (i : Nat) (h : i < L.length) : (rvI L)[2 * i]? = some (.int .i64 (L.getD i (0, 0)).1) := (rvI_get L i h).1
theorem rvI_hi (L : List (Int × Int)) (i : Nat) (h : i < L.length) : (rvI L)[2 * i + 1]? = some (.int .i64 (L.getD i (0, 0)).2) := (rvI_get L i h).2
theorem rvI_none (L : List (Int × Int)) (j : Nat) (h : 2 * L.length ≤ j) : (rvI L)[j]? = none := List.getElem?_eq_none (by rw [rvI_len]; exact h)

theorem eq_range (a b c d : Int) (w : World) : (Op.equalIn 10000 54 (.agg #[.int .i64 a, .int .i64 b]) (.agg #[.int .i64 c, .int .i64 d])).run Try.prog w = .ok (a == c && b == d) w := by
  have h1 : (Op.equalIn 9999 3 (.int .i64 a) (.int .i64 c)).run Try.prog w = .ok (a == c) w := run_equalIn_int (P := Try.prog) w 9998 3 .i64 .i64 a c Try.underlying3
  have h2 : (Op.equalIn 9999 3 (.int .i64 b) (.int .i64 d)).run Try.prog w = .ok (b == d) w := run_equalIn_int (P := Try.prog) w 9998 3 .i64 .i64 b d Try.underlying3
  rw [run_equalIn_agg (P := Try.prog) w 9999 54 _ _ (by kernel_rfl) (by kernel_rfl)]
  have hf : (Try.prog.fieldsOf 54).toList = [{ name := "Lo", type := 3, offset := 0, embedded := false, tag := "", pkgPath := "", byteOffset := 0 }, { name := "Hi", type := 3, offset := 1, embedded := false, tag := "", pkgPath := "", byteOffset := 8 }] := by
    unfold Program.fieldsOf
    rw [Try.underlying54]
  rw [hf]
  cases hx : (a == c) <;> cases hy : (b == d) <;> rw [hx] at h1 <;> rw [hy] at h2 <;>
    simp [Op.eqFields, Sem.run_bind, go_sem, h1, h2, Try.isAgg3, Result.andThen]
theorem guard_range : Try.prog.eqGuardType Try.prog.depth 54 = false := by kernel_rfl


/-- a slice that reads as ranges -/
structure Rgs (L : List (Int × Int)) (W : World) (v : Value) : Prop where
  form : ∃ ad cap, v = .slice ad L.length cap ∧ (L.length = 0 ∨ ∃ b off, ad = some ⟨b, off, none⟩ ∧ b < W.heap.size ∧ ∀ j x, (rvI L)[j]? = some x → W.cell? ⟨b, off + j, none⟩ = some x)
theorem Rgs.below {L : List (Int × Int)} {W W' : World} {v : Value} (h : Rgs L W v) (hb : Below W.heap.size W W') : Rgs L W' v := by
  obtain ⟨ad, cap, hv, h⟩ := h.form
  refine ⟨ad, cap, hv, ?_⟩
  rcases h with h | ⟨b, off, h1, h2, h3⟩
  · exact .inl h
  · exact .inr ⟨b, off, h1, Nat.lt_of_lt_of_le h2 hb.size, fun j x hx => (hb.cell (p := ⟨b, off + j, none⟩) h2).trans (h3 j x hx)⟩
theorem Rgs.of_owns {L : List (Int × Int)} {W : World} {v : Value} {B : Nat} (h : W.ownsRow B 54 2 v L.length (rvI L)) : Rgs L W v := by
  rcases h.2 with ⟨h1, h2⟩ | ⟨g, cap, cur, h1, h2, h3, h4, h5, h6, h7⟩
  · exact ⟨none, 0, by rw [h1, h2], .inl h2⟩
  · refine ⟨some ⟨g, 0, none⟩, cap, h1, .inr ⟨g, 0, rfl, lt_of_block h3, fun j x hx => ?_⟩⟩
    have hj : j < L.length * 2 := by
      rcases Nat.lt_or_ge j (L.length * 2) with h | h
      · exact h
      · rw [rvI_none L j (by omega)] at hx; cases hx
    subst h1
    rw [Nat.zero_add]
    exact (h.cellAt j hj).trans hx

set_option maxRecDepth 100000 in
set_option maxHeartbeats 1000000 in
/-- TWO EQUAL LISTS OF RANGES -/
theorem Ranges_true (va vb : Value) (L : List (Int × Int)) (w : World) (hle : L.length ≤ 1000000) (ha : Rgs L w va) (hb : Rgs L w vb) :
    Calls Try.prog 12 #[va, vb] w fun e w' => e = .returned (.bool true) ∧ ∃ q, w' = w.drewN q := by
  obtain ⟨aa, ac, rfl, ha2⟩ := ha.form
  obtain ⟨ba, bc, rfl, hb2⟩ := hb.form
  obtain ⟨n, hn⟩ : ∃ n, n = L.length := ⟨_, rfl⟩
  rw [← hn] at ha2 hb2 ha hb hle ⊢
  have HA := Lib.hid ha2
  have HB := Lib.hid hb2
  have HN := Lib.hid hn
  have hEq := eq_range
  have hGd := guard_range
  clear ha hb ha2 hb2 hn
  go_enter Try.func12, Try.ntmps12
  go_wp2_with fail
  go_loopw [5] (fun i wr => ∃ k : Nat, k ≤ n ∧ i = .int .i64 k ∧ ∃ q, wr = w.drewN q) (fun i _ => n - (intOf i).toNat)
  case atStart => exact ⟨0, Nat.zero_le _, rfl, 0, rfl⟩
  case round =>
    obtain ⟨k, hk, rfl, q, hq⟩ := hrel
    obtain ⟨wq, rfl⟩ : ∃ wq : World, wq = wr := ⟨_, rfl⟩
    by_cases hlt : k < n
    · have hA : n = 0 ∨ ∃ b off, aa = some ⟨b, off, none⟩ ∧ b < w.heap.size ∧ ∀ j x, (rvI L)[j]? = some x → w.cell? ⟨b, off + j, none⟩ = some x := HA.out
      have hB : n = 0 ∨ ∃ b off, ba = some ⟨b, off, none⟩ ∧ b < w.heap.size ∧ ∀ j x, (rvI L)[j]? = some x → w.cell? ⟨b, off + j, none⟩ = some x := HB.out
      rcases hA with h | ⟨b1, o1, rfl, -, h1⟩
      · omega
      rcases hB with h | ⟨b2, o2, rfl, -, h2⟩
      · omega
      have c1 : wq.cell? ⟨b1, o1 + k * 2, none⟩ = some (.int .i64 (L.getD k (0, 0)).1) := by rw [hq, Nat.mul_comm k 2]; exact h1 _ _ (rvI_lo L k (by have := HN.out; omega))
      have c2 : wq.cell? ⟨b1, o1 + k * 2 + 1, none⟩ = some (.int .i64 (L.getD k (0, 0)).2) := by rw [hq, Nat.mul_comm k 2, Nat.add_assoc]; exact h1 _ _ (rvI_hi L k (by have := HN.out; omega))
      have c3 : wq.cell? ⟨b2, o2 + k * 2, none⟩ = some (.int .i64 (L.getD k (0, 0)).1) := by rw [hq, Nat.mul_comm k 2]; exact h2 _ _ (rvI_lo L k (by have := HN.out; omega))
      have c4 : wq.cell? ⟨b2, o2 + k * 2 + 1, none⟩ = some (.int .i64 (L.getD k (0, 0)).2) := by rw [hq, Nat.mul_comm k 2, Nat.add_assoc]; exact h2 _ _ (rvI_hi L k (by have := HN.out; omega))
      have HQ := Lib.hid hq
      generalize (L.getD k (0, 0)).1 = x at *
      generalize (L.getD k (0, 0)).2 = y at *
      clear h1 h2 HA HB hq
      go_wp2_with fail
      go_region
      go_wp2_with fail
      go_roundw
      case rel => exact ⟨k + 1, by omega, by go_num, _, by rw [HQ.out]; first | rfl | exact World.drewN_drewN _ _ 1⟩
      case measure => simp [intOf]; omega
    · go_wp2_with fail
      go_ret
      exact ⟨rfl, q, by first | rfl | exact hq⟩
end Go.Proofs.Ytmbolmmcfnfamaa.Orb
