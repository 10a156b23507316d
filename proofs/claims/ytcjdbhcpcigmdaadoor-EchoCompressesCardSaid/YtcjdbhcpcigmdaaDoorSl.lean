import Derived.Test.YtcjdbhcpcigmdaaDoorEb
import Derived.Carry
namespace Go.Proofs.YtcjdbhcpcigmdaaDoor
open Go.RowKit Go.Proofs.YtcjdbhcpcigmdaaDoor.Flt

/-- THE SLICE VALUE v READS AS THE VALUES xs, a cell each -/
structure Sl (w : World) (v : Value) (xs : List Value) : Prop where
  form : ∃ ad cap, v = .slice ad xs.length cap ∧ xs.length ≤ 140737488351232 ∧
    (xs = [] ∨ ∃ b off, ad = some ⟨b, off, none⟩ ∧ b < w.heap.size ∧ ∀ j x, xs[j]? = some x → w.cell? ⟨b, off + j, none⟩ = some x)

theorem Sl.below {w w' : World} {v : Value} {xs : List Value} {B : Nat} (h : Sl w v xs) (hb : Below B w w') (hB : w.heap.size ≤ B) : Sl w' v xs := by
  obtain ⟨ad, cap, hv, hl, h⟩ := h
  refine ⟨ad, cap, hv, hl, ?_⟩
  rcases h with h | ⟨b, off, h1, h2, h3⟩
  · exact .inl h
  · exact .inr ⟨b, off, h1, Nat.lt_of_lt_of_le h2 hb.size, fun j x hx => (hb.cell (p := ⟨b, off + j, none⟩) (Nat.lt_of_lt_of_le h2 hB)).trans (h3 j x hx)⟩

theorem Sl.drewN {w : World} {v : Value} {xs : List Value} (h : Sl w v xs) (n : Nat) : Sl (w.drewN n) v xs := by
  obtain ⟨ad, cap, hv, hl, h⟩ := h
  exact ⟨ad, cap, hv, hl, h⟩

theorem below_drewN' (B : Nat) (w : World) (n : Nat) : Below B w (w.drewN n) := ⟨rfl, rfl, rfl, Nat.le_refl _, fun _ _ => rfl⟩

/-- complex samples as values -/
def cvals (k : FloatKind) (zs : List (Nat × Nat)) : List Value := zs.map fun z => .complex k z.1 z.2

/-- the first error of a list, and its place -/
def firstErr : Nat → List Int → Int × Int
  | _, [] => (0, 0)
  | i, e :: r => if e = 0 then firstErr (i + 1) r else ((i : Int), e)

theorem firstErr_zero (i : Nat) (es : List Int) (k : Nat) (h : es[k]? = some 0) : firstErr (i + k) (es.drop k) = firstErr (i + (k + 1)) (es.drop (k + 1)) := by
  have hk : k < es.length := by
    rcases Nat.lt_or_ge k es.length with h' | h'
    · exact h'
    · simp [List.getElem?_eq_none h'] at h
  rw [List.drop_eq_getElem_cons hk]
  have : es[k] = 0 := by rw [List.getElem?_eq_getElem hk] at h; exact Option.some.inj h
  simp [firstErr, this, Nat.add_assoc]

theorem firstErr_hit (i : Nat) (es : List Int) (k : Nat) (e : Int) (h : es[k]? = some e) (he : e ≠ 0) : firstErr (i + k) (es.drop k) = (((i + k : Nat) : Int), e) := by
  have hk : k < es.length := by
    rcases Nat.lt_or_ge k es.length with h' | h'
    · exact h'
    · simp [List.getElem?_eq_none h'] at h
  rw [List.drop_eq_getElem_cons hk]
  have : es[k] = e := by rw [List.getElem?_eq_getElem hk] at h; exact Option.some.inj h
  simp [firstErr, this, he]

theorem firstErr_end (i : Nat) (es : List Int) (k : Nat) (h : es.length ≤ k) : firstErr i (es.drop k) = (0, 0) := by
  rw [List.drop_of_length_le h]; rfl

/-- complex64 made complex128: each part the same number, if it is one -/
theorem run_conv_f32 {P : Program} (a : Nat) (w : World) : ∃ r n, (Conv.floatToFloat .f32 a .f64).run P w = .ok (.float .f64 r) (w.drewN n) ∧ wv Ieee.double r = wv Ieee.single a ∧ r < 2 ^ 64 ∧
    (∀ k : Int, Rep Ieee.single a k → k.natAbs ≤ 2 ^ 24 → n = 0 ∧ Rep Ieee.double r k ∧ (a = enc Ieee.single k → r = enc Ieee.double k)) := by
  unfold Conv.floatToFloat
  rw [if_neg (by decide)]
  have e : FloatKind.f32.decode a = Ieee.single.read a := rfl
  rw [e]
  have w64 : (2 : Nat) ^ Ieee.double.width = 2 ^ 64 := rfl
  cases hd : Ieee.single.read a with
  | nan s t =>
    dsimp only
    obtain ⟨q, hq⟩ : ∃ q, q = w.tape w.drawn (.nanConv .f64 a) := ⟨_, rfl⟩
    refine ⟨(q % 2) * 2 ^ 63 + 0x7ff0000000000000 + 1 + (q / 2) % (2 ^ 52 - 1), 1, by subst hq; rfl, ?_, ?_, ?_⟩
    · obtain ⟨s', k', h⟩ := nan_pat q ((q / 2) % (2 ^ 52 - 1)) (Nat.mod_lt _ (by decide))
      rw [wv_nan h, wv_nan hd]
    · have := Nat.mod_lt (q / 2) (show 2 ^ 52 - 1 > 0 by decide)
      have := Nat.mod_lt q (show 2 > 0 by decide)
      omega
    · intro k hk hkk
      have := rep_wv good_single hk hkk
      rw [wv_nan hd] at this
      cases this
  | infinity s =>
    refine ⟨Ieee.double.write (.infinity s), 0, rfl, ?_, ?_, ?_⟩
    · exact write_wv hd (by intro _ _ h; cases h)
    · rw [← w64]; exact Ieee.double.write_lt _
    · intro k hk hkk
      have := rep_wv good_single hk hkk
      rw [wv_inf hd] at this
      cases this
  | number s m e' =>
    have hni := (conv_number hd).1
    refine ⟨Ieee.double.write (.number s m e'), 0, ?_, ?_, ?_, ?_⟩
    · have : (FloatKind.f64.decode (FloatKind.f64.encode (.number s m e'))).isInfinity = false := hni
      dsimp only
      rw [this]
      rfl
    · exact write_wv hd (by intro _ _ h; cases h)
    · rw [← w64]; exact Ieee.double.write_lt _
    · intro k hk hkk
      obtain ⟨s', m', e'', h1, h2, h3⟩ := conv_rep good_single good_double hk hkk (Nat.le_trans hkk (by decide))
      rw [hd] at h1
      cases h1
      exact ⟨rfl, h2, h3⟩

theorem run_conv_c64 {P : Program} (src dst : TypeId) (hs : (P.underlying src).isSome = true) (hd : P.underlying dst = some (.complex .f64)) (a b : Nat) (w : World) :
    ∃ x y n, (convert src dst (.complex .f32 a b)).run P w = .ok (.complex .f64 x y) (w.drewN n) ∧ wv Ieee.double x = wv Ieee.single a ∧ wv Ieee.double y = wv Ieee.single b ∧ x < 2 ^ 64 ∧ y < 2 ^ 64 ∧
      (∀ k l : Int, Rep Ieee.single a k → k.natAbs ≤ 2 ^ 24 → Rep Ieee.single b l → l.natAbs ≤ 2 ^ 24 → n = 0 ∧ Rep Ieee.double x k ∧ Rep Ieee.double y l) := by
  obtain ⟨u, hs'⟩ := Option.isSome_iff_exists.1 hs
  obtain ⟨x, n, h1, h2, h3, h4⟩ := run_conv_f32 (P := P) a w
  obtain ⟨y, n', h1', h2', h3', h4'⟩ := run_conv_f32 (P := P) b (w.drewN n)
  refine ⟨x, y, n + n', ?_, h2, h2', h3, h3', fun k l hk hkk hl hll => ?_⟩
  · cases u <;> simp [convert, run_underlying hs', run_underlying hd, Conv.complexToComplex, h1, h1']
  · obtain ⟨e1, e2, -⟩ := h4 k hk hkk
    obtain ⟨e1', e2', -⟩ := h4' l hl hll
    exact ⟨by omega, e2, e2'⟩

theorem Tryd.und109 : (Tryd.prog.underlying 109).isSome = true := by kernel_rfl
theorem Tryd.und88 : Tryd.prog.underlying 88 = some (.complex .f64) := by kernel_rfl

def smpErrs (k : FloatKind) (M : Int) (zs : List (Nat × Nat)) : List Int := zs.map fun z => smpErr (wv k.format z.1) (wv k.format z.2) M

set_option maxHeartbeats 1000000 in
set_option maxRecDepth 100000 in
/-- THE FIRST WRONG SAMPLE -/
theorem checkSamples64_any (v : Value) (zs : List (Nat × Nat)) (m : Nat) (M : Int) (w : World) (hv : Sl w v (cvals .f32 zs)) (hm : Rep Ieee.double m M) (h0 : 0 ≤ M) (hM : M.natAbs ≤ 2 ^ 53) :
    Calls Tryd.prog 73 #[v, .float .f64 m] w fun e w' => e = .returned (.tuple #[.int .i64 (firstErr 0 (smpErrs .f32 M zs)).1, .int .i64 (firstErr 0 (smpErrs .f32 M zs)).2]) ∧ ∃ n, w' = w.drewN n := by
  obtain ⟨ad, cap, rfl, hl, hc⟩ := hv
  obtain ⟨n, hn⟩ : ∃ n, n = (cvals .f32 zs).length := ⟨_, rfl⟩
  rw [← hn] at hl ⊢
  have hn' : n = zs.length := by rw [hn]; simp [cvals]
  have HM := Lib.hid (And.intro hm (And.intro h0 hM))
  obtain ⟨R, hR⟩ : ∃ R, R = firstErr 0 (smpErrs .f32 M zs) := ⟨_, rfl⟩
  rw [← hR]
  have HR := Lib.hid hR
  have HN := Lib.hid hn'
  have HC := Lib.hid hc
  clear hm h0 hM hR hn hn' hc
  go_enter Tryd.func73, Tryd.ntmps73
  go_wp2_with fail
  go_loopw [11] (fun i wr => ∃ k : Nat, k ≤ n ∧ i = .int .i64 k ∧ Hid (R = firstErr k ((smpErrs .f32 M zs).drop k)) ∧ ∃ q, wr = w.drewN q) (fun i _ => n - (intOf i).toNat)
  case atStart => exact ⟨0, Nat.zero_le _, rfl, HR, 0, rfl⟩
  case round =>
    obtain ⟨k, hk, rfl, HK, q, rfl⟩ := hrel
    by_cases hlt : k < n
    · have hkz : k < zs.length := by have := HN.out; omega
      rcases HC.out with h | ⟨b, off, rfl, hb, hcell⟩
      · have := HN.out; rw [show zs = [] from by simpa [cvals] using h] at this; simp at this; omega
      have hck : w.cell? ⟨b, off + k, none⟩ = some (.complex .f32 zs[k].1 zs[k].2) := hcell k _ (by simp [cvals, List.getElem?_eq_getElem hkz])
      obtain ⟨z1, hz1⟩ : ∃ z1, z1 = zs[k].1 := ⟨_, rfl⟩
      obtain ⟨z2, hz2⟩ : ∃ z2, z2 = zs[k].2 := ⟨_, rfl⟩
      rw [← hz1, ← hz2] at hck
      obtain ⟨x, y, n', hconv, hx, hy, hx', hy', -⟩ := run_conv_c64 (P := Tryd.prog) 109 88 Tryd.und109 Tryd.und88 z1 z2 (w.drewN q)
      have hE : (smpErrs .f32 M zs)[k]? = some (smpErr (wv Ieee.double x) (wv Ieee.double y) M) := by
        rw [hx, hy, hz1, hz2]; simp [smpErrs, List.getElem?_eq_getElem hkz]; rfl
      have C := Lib.hid (fun w => checkSample_any x y m M hx' hy' HM.out.1 HM.out.2.1 HM.out.2.2 w)
      have HE := Lib.hid hE
      generalize smpErr (wv Ieee.double x) (wv Ieee.double y) M = E at *
      clear hE hx hy hx' hy' hz1 hz2 hkz hcell hb HC
      by_cases hE0 : E = 0
      · subst hE0
        have HK' : Hid (R = firstErr (k + 1) ((smpErrs .f32 M zs).drop (k + 1))) := by
          have := firstErr_zero 0 _ k HE.out
          simp only [Nat.zero_add] at this
          exact HK.out.trans this
        clear HE HK
        go_wp2_with fail
        refine (C.out _).mono ?_
        rintro e w' ⟨rfl, n2, rfl⟩
        go_wp2_with fail
        go_roundw
        case rel => exact ⟨k + 1, by omega, by go_num, HK', _, rfl⟩
        case measure => simp [intOf]; omega
      · have HK' : Hid (R = ((k : Int), E)) := by
          have := firstErr_hit 0 _ k E HE.out hE0
          simp only [Nat.zero_add] at this
          exact HK.out.trans this
        clear HE HK
        have hne : (E != 0) = true := by rw [bne_iff_ne]; exact hE0
        go_wp2_with fail
        refine (C.out _).mono ?_
        rintro e w' ⟨rfl, n2, rfl⟩
        go_wp2_with fail
        go_ret2
        exact ⟨by rw [HK'.out]; rfl, _, rfl⟩
    · have HK' : Hid (R = (0, 0)) := by
        have : (smpErrs .f32 M zs).length ≤ k := by have := HN.out; simp [smpErrs]; omega
        exact HK.out.trans (firstErr_end k _ k this)
      clear HK
      go_wp2_with fail
      go_ret2
      exact ⟨by rw [HK'.out]; rfl, _, rfl⟩
end Go.Proofs.YtcjdbhcpcigmdaaDoor
