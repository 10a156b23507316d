import Derived.Test.YtadajelonekpmaaEg
namespace Go.Proofs.Ytadajelonekpmaa
open Go.RowKit Go.Proofs.Ytadajelonekpmaa.Flt

def ivals (xs : List Int) : List Value := xs.map (Value.int .i64)

theorem ivals_get {xs : List Int} {i : Nat} (h : i < xs.length) : (ivals xs)[i]? = some (.int .i64 (xs.getD i 0)) := by
  simp [ivals, List.getElem?_eq_getElem h, List.getD_eq_getElem?_getD]

/-- a slice that is not empty: where it lies -/
theorem Sl.at {w : World} {ad : Option Addr} {n cap : Nat} {xs : List Value} (h : Sl w (.slice ad n cap) xs) (h0 : 0 < n) : n = xs.length ∧ ∃ b off, ad = some ⟨b, off, none⟩ ∧ b < w.heap.size ∧ ∀ j x, xs[j]? = some x → w.cell? ⟨b, off + j, none⟩ = some x := by
  obtain ⟨ad', cap', hv, hl, h⟩ := h
  injection hv with e1 e2 e3
  subst e1 e2 e3
  refine ⟨rfl, ?_⟩
  rcases h with h | h
  · rw [h] at h0; simp at h0
  · exact h

set_option maxRecDepth 100000 in
set_option maxHeartbeats 1000000 in
/-- TWO EQUAL LISTS OF NUMBERS -/
theorem Ints_true (va vb : Value) (xs : List Int) (w : World) (ha : Sl w va (ivals xs)) (hb : Sl w vb (ivals xs)) :
    Calls Try.prog 20 #[va, vb] w fun e w' => e = .returned (.bool true) ∧ ∃ q, w' = w.drewN q := by
  have hha := ha
  have hhb := hb
  obtain ⟨aa, ac, rfl, hla, -⟩ := ha
  obtain ⟨ba, bc, rfl, hlb, -⟩ := hb
  obtain ⟨n, hn⟩ : ∃ n, n = (ivals xs).length := ⟨_, rfl⟩
  rw [← hn] at hla hlb hha hhb ⊢
  have hn' : n = xs.length := by rw [hn]; simp [ivals]
  have HA := Lib.hid hha
  have HB := Lib.hid hhb
  have HN := Lib.hid hn'
  clear hha hhb hn hn'
  go_enter Try.func20, Try.ntmps20
  go_wp2_with fail
  go_loopw [5] (fun i wr => ∃ k : Nat, k ≤ n ∧ i = .int .i64 k ∧ ∃ q, wr = w.drewN q) (fun i _ => n - (intOf i).toNat)
  case atStart => exact ⟨0, Nat.zero_le _, rfl, 0, rfl⟩
  case round =>
    obtain ⟨k, hk, rfl, q, rfl⟩ := hrel
    by_cases hlt : k < n
    · obtain ⟨-, b1, o1, rfl, -, h1⟩ := HA.out.at (by omega)
      obtain ⟨-, b2, o2, rfl, -, h2⟩ := HB.out.at (by omega)
      have c1 := h1 k _ (ivals_get (by have := HN.out; omega))
      have c2 := h2 k _ (ivals_get (by have := HN.out; omega))
      generalize xs.getD k 0 = x at *
      clear h1 h2 HA HB
      go_wp2_with fail
      go_quiet (fail)
      go_wp2_with fail
      go_roundw
      case rel => exact ⟨k + 1, by omega, by go_num, _, rfl⟩
      case measure => simp [intOf]; omega
    · go_wp2_with fail
      go_ret
      exact ⟨rfl, _, rfl⟩

set_option maxRecDepth 100000 in
set_option maxHeartbeats 1000000 in
/-- TWO EQUAL LISTS OF SUMS -/
theorem SameSums_true (va vb : Value) (zs : List (Nat × Nat)) (w : World) (ha : Sl w va (cvals .f64 zs)) (hb : Sl w vb (cvals .f64 zs)) :
    Calls Try.prog 19 #[va, vb] w fun e w' => e = .returned (.bool true) ∧ ∃ q, w' = w.drewN q := by
  have hha := ha
  have hhb := hb
  obtain ⟨aa, ac, rfl, hla, -⟩ := ha
  obtain ⟨ba, bc, rfl, hlb, -⟩ := hb
  obtain ⟨n, hn⟩ : ∃ n, n = (cvals .f64 zs).length := ⟨_, rfl⟩
  rw [← hn] at hla hlb hha hhb ⊢
  have hn' : n = zs.length := by rw [hn]; simp [cvals]
  have HA := Lib.hid hha
  have HB := Lib.hid hhb
  have HN := Lib.hid hn'
  clear hha hhb hn hn'
  go_enter Try.func19, Try.ntmps19
  go_wp2_with fail
  go_loopw [5] (fun i wr => ∃ k : Nat, k ≤ n ∧ i = .int .i64 k ∧ ∃ q, wr = w.drewN q) (fun i _ => n - (intOf i).toNat)
  case atStart => exact ⟨0, Nat.zero_le _, rfl, 0, rfl⟩
  case round =>
    obtain ⟨k, hk, rfl, q, rfl⟩ := hrel
    by_cases hlt : k < n
    · obtain ⟨-, b1, o1, rfl, -, h1⟩ := HA.out.at (by omega)
      obtain ⟨-, b2, o2, rfl, -, h2⟩ := HB.out.at (by omega)
      have c1 := h1 k _ (cvals_get (by have := HN.out; omega))
      have c2 := h2 k _ (cvals_get (by have := HN.out; omega))
      generalize (zs.getD k (0, 0)).1 = x at *
      generalize (zs.getD k (0, 0)).2 = y at *
      clear h1 h2 HA HB
      go_wp2_with fail
      go_quiet (fail)
      go_wp2_with fail
      go_roundw
      case rel => exact ⟨k + 1, by omega, by go_num, _, rfl⟩
      case measure => simp [intOf]; omega
    · go_wp2_with fail
      go_ret
      exact ⟨rfl, _, rfl⟩

end Go.Proofs.Ytadajelonekpmaa
