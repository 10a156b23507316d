import Derived.Test.YtmmmaanflmgblaaDoorIa
import Derived.Test.YtmmmaanflmgblaaDoorCa
import Derived.Laws.StructEq
namespace Go.Proofs.YtmmmaanflmgblaaDoor
open Go.RowKit Go.Proofs.YtmmmaanflmgblaaDoor.Flt

/-- two ranges, compared -/
theorem eq_range (a b c d : Int) (w : World) : (Op.equalIn 10000 69 (.agg #[.int .i64 a, .int .i64 b]) (.agg #[.int .i64 c, .int .i64 d])).run Tryd.prog w = .ok (a == c && b == d) w := by
  have h1 : (Op.equalIn 9999 3 (.int .i64 a) (.int .i64 c)).run Tryd.prog w = .ok (a == c) w := run_equalIn_int (P := Tryd.prog) w 9998 3 .i64 .i64 a c Tryd.underlying3
  have h2 : (Op.equalIn 9999 3 (.int .i64 b) (.int .i64 d)).run Tryd.prog w = .ok (b == d) w := run_equalIn_int (P := Tryd.prog) w 9998 3 .i64 .i64 b d Tryd.underlying3
  rw [run_equalIn_agg (P := Tryd.prog) w 9999 69 _ _ (by kernel_rfl) (by kernel_rfl)]
  have hf : (Tryd.prog.fieldsOf 69).toList = [{ name := "Lo", type := 3, offset := 0, embedded := false, tag := "", pkgPath := "", byteOffset := 0 }, { name := "Hi", type := 3, offset := 1, embedded := false, tag := "", pkgPath := "", byteOffset := 8 }] := by
    unfold Program.fieldsOf
    rw [Tryd.underlying69]
  rw [hf]
  cases hx : (a == c) <;> cases hy : (b == d) <;> rw [hx] at h1 <;> rw [hy] at h2 <;>
    simp [Op.eqFields, Sem.run_bind, go_sem, h1, h2, Tryd.isAgg3, Result.andThen]
theorem guard_range : Tryd.prog.eqGuardType Tryd.prog.depth 69 = false := by kernel_rfl

theorem run_conv_ff0 {P : Program} (src dst : TypeId) (hs : (P.underlying src).isSome = true) (hd : P.underlying dst = some (.float .f64)) {a : Nat} {k : Int} (ha : Rep Ieee.single a k) (hk : k.natAbs ≤ 2 ^ 24) (w : World) :
    ∃ r, (convert src dst (.float .f32 a)).run P w = .ok (.float .f64 r) w ∧ Rep Ieee.double r k := by
  obtain ⟨u, hs'⟩ := Option.isSome_iff_exists.1 hs
  obtain ⟨r, n, h1, -, -, h4⟩ := run_conv_f32 (P := P) a w
  obtain ⟨rfl, h5, -⟩ := h4 k ha hk
  refine ⟨r, ?_, h5⟩
  have h1' : (Conv.floatToFloat .f32 a .f64).run P w = .ok (.float .f64 r) w := h1
  cases u <;> simp [convert, run_underlying hs', run_underlying hd, h1']

set_option maxRecDepth 100000 in
theorem isClipped_any (x : Nat) (a : Int) (ra : Rep Ieee.single x a) (la : a.natAbs ≤ 2047) (w : World) :
    Calls Tryd.prog 61 #[.float .f32 x] w fun e w' => e = .returned (.bool (decide (a.natAbs = 2047))) ∧ w = w' := by
  obtain ⟨r, hr, rr⟩ := run_conv_ff0 (P := Tryd.prog) 103 109 (by kernel_rfl) (by kernel_rfl) ra (by omega) w
  have C := Lib.hid (abs_any r (rep_lt rr) w)
  have ha : r % 2 ^ 63 = enc Ieee.double (a.natAbs : Int) := abs_rep good_double rr (by show a.natAbs ≤ 2 ^ 53; omega)
  rw [ha] at C
  have ho : (FloatKind.f64.format.order (enc Ieee.double (a.natAbs : Int)) 4656717616654581760 == some .eq) = decide (a.natAbs = 2047) := by
    have := order_rep good_double (.enc Ieee.double (a.natAbs : Int)) sample_rep (by show (a.natAbs : Int).natAbs ≤ 2 ^ 53; omega) (by decide)
    have h2 : FloatKind.f64.format.order (enc Ieee.double (a.natAbs : Int)) 4656717616654581760 = some (compare (a.natAbs : Int) 2047) := this
    rw [h2]
    simp only [compare, compareOfLessAndEq]
    by_cases h1 : (a.natAbs : Int) < 2047
    · rw [if_pos h1, decide_eq_false (by omega)]; rfl
    · have h3 : (a.natAbs : Int) = 2047 := by omega
      rw [if_neg h1, if_pos h3, decide_eq_true (by omega)]; rfl
  have HO := Lib.hid ho
  generalize enc Ieee.double (a.natAbs : Int) = y at *
  generalize decide (a.natAbs = 2047) = D at *
  clear rr ra la ha
  go_enter Tryd.func61, Tryd.ntmps61
  go_wp2_with fail
  refine C.out.mono ?_
  rintro e w' ⟨rfl, rfl⟩
  go_wp2_with fail
  go_ret
  exact ⟨by rw [← HO.out] <;> rfl, rfl⟩

theorem Size_any (n : Int) (h1 : -9223372036854775807 ≤ n) (h2 : n ≤ 9223372036854775807) (w : World) :
    Calls Tryd.prog 65 #[.int .i64 n] w fun e w' => e = .returned (.int .i64 (n.natAbs : Nat)) ∧ w = w' := by
  have HM : Hid (max n (-n) = (n.natAbs : Int)) := by unfold Hid; omega
  generalize (n.natAbs : Int) = m at *
  go_enter Tryd.func65, Tryd.ntmps65
  go_wp2_with fail
  go_ret
  exact ⟨by rw [← HM.out] <;> rfl, rfl⟩

/-- is the sample i clipped? how many of the first k? -/
def clipB (zs : List (Nat × Nat)) (i : Nat) : Bool := decide ((re .f32 zs i).natAbs = 2047) || decide ((im .f32 zs i).natAbs = 2047)
def clipTo (zs : List (Nat × Nat)) : Nat → Nat
  | 0 => 0
  | k + 1 => clipTo zs k + if clipB zs k then 1 else 0
theorem clipTo_le (zs : List (Nat × Nat)) : ∀ k, clipTo zs k ≤ k
  | 0 => Nat.le_refl _
  | k + 1 => by
    have := clipTo_le zs k
    rw [clipTo]; split <;> omega

set_option maxRecDepth 100000 in
set_option maxHeartbeats 1000000 in
theorem Clipped_ok (l s : Int) (v : Value) (zs : List (Nat × Nat)) (w : World) (hl : I64 l) (hs : I64 s) (hv : Sl w v (cvals .f32 zs)) (R : Right .f32 2047 zs) (hE : (dataErr .f32 2047 l s zs).2 = 0) :
    Calls Tryd.prog 16 #[.agg #[.int .i64 l, .int .i64 s, v]] w fun e w' => e = .returned (.tuple #[.int .i64 (clipTo zs zs.length : Nat), .int .i64 0]) ∧ Below w.heap.size w w' := by
  obtain ⟨W0, hW0⟩ : ∃ W0, W0 = w.alloc (.cells #[.int .i64 l, .int .i64 s, v] 32) := ⟨_, rfl⟩
  have hb : Below w.heap.size w W0 := by rw [hW0]; exact (Below.refl _ _).alloc (Nat.le_refl _) _
  have C := Lib.hid (CheckImage_any l s v zs W0 hl hs (hv.below hb (Nat.le_refl _)))
  rw [hE] at C
  have H0 : Hid (W0.heap[w.heap.size]? = some (.cells #[.int .i64 l, .int .i64 s, v] 32 (0, 0))) := by rw [hW0]; exact heap_alloc_new _ _
  have HB := Lib.hid hb
  have HW0 := Lib.hid hW0
  have HV := Lib.hid (hv.below hb (Nat.le_refl _))
  have hzl : zs.length ≤ 140737488351232 := by obtain ⟨-, -, -, h, -⟩ := hv; simpa [cvals] using h
  obtain ⟨ad, cap, rfl, hvl, -⟩ := hv
  have hnc : (cvals .f32 zs).length = zs.length := by simp [cvals]
  rw [hnc] at hvl HV C H0 HW0 ⊢
  obtain ⟨n, hn⟩ : ∃ n, n = zs.length := ⟨_, rfl⟩
  rw [← hn] at hvl HV C H0 HW0 hzl ⊢
  have HN := Lib.hid hn
  have HR := Lib.hid R
  generalize (dataErr .f32 2047 l s zs).1 = D1 at *
  obtain ⟨M, hM⟩ : ∃ M, M = clipTo zs n := ⟨_, rfl⟩
  rw [← hM]
  have HM := Lib.hid hM
  clear hb hW0 hnc hn hE hl hs R hM
  go_enter Tryd.func16, Tryd.ntmps16
  go_wp2_with fail
  rw [← HW0.out]
  refine C.out.mono ?_
  rintro e w2 ⟨rfl, hb2⟩
  have H2 : Hid (w2.heap[w.heap.size]? = some (.cells #[.int .i64 l, .int .i64 s, .slice ad n cap] 32 (0, 0))) := (hb2.block _ (lt_of_block H0.out)).trans H0.out
  have HV2 := Lib.hid (HV.out.below hb2 (Nat.le_refl _))
  have HB2 := Lib.hid (HB.out.trans (hb2.mono HB.out.size))
  obtain ⟨c0, c1, c2, -, -, -, lc⟩ := three_cells H2.out
  clear hb2 HV HB H0 HW0 C
  go_wp2_with fail
  go_loop [6, 20] (fun cv i => ∃ k : Nat, k ≤ n ∧ i = .int .i64 k ∧ cv = .int .i64 (clipTo zs k : Nat)) (fun _ i => n - (intOf i).toNat)
  case atStart => exact ⟨0, Nat.zero_le _, rfl, rfl⟩
  case round =>
    obtain ⟨k, hk, rfl, rfl⟩ := hrel
    have hcl := clipTo_le zs k
    by_cases hlt : k < n
    · obtain ⟨-, b1, o1, rfl, q1, g1⟩ := HV2.out.at (by omega)
      have hkz : k < zs.length := by have := HN.out; omega
      have d1 : w2.cell? ⟨b1, o1 + k, none⟩ = some (.complex .f32 (zs.getD k (0, 0)).1 (zs.getD k (0, 0)).2) := g1 k _ (cvals_get hkz)
      obtain ⟨a1, a2, a3, a4⟩ := HR.out k hkz
      have C1 := Lib.hid (fun w => isClipped_any _ _ a1 a3 w)
      have C2 := Lib.hid (fun w => isClipped_any _ _ a2 a4 w)
      have HS : Hid (clipTo zs (k + 1) = clipTo zs k + if (decide ((re .f32 zs k).natAbs = 2047) || decide ((im .f32 zs k).natAbs = 2047)) then 1 else 0) := rfl
      generalize decide ((re .f32 zs k).natAbs = 2047) = p at *
      generalize decide ((im .f32 zs k).natAbs = 2047) = q at *
      generalize (zs.getD k (0, 0)).1 = z1 at *
      generalize (zs.getD k (0, 0)).2 = z2 at *
      obtain ⟨m, hm⟩ : ∃ m, m = clipTo zs k := ⟨_, rfl⟩
      rw [← hm] at HS hcl ⊢
      clear g1 q1 a1 a2 a3 a4 hm
      cases p
      · cases q
        · have HS2 : Hid (clipTo zs (k + 1) = m) := HS.out
          go_wp2_with fail
          refine (C1.out _).mono ?_
          rintro e w' ⟨rfl, rfl⟩
          go_wp2_with fail
          refine (C2.out _).mono ?_
          rintro e w' ⟨rfl, rfl⟩
          go_wp2_with fail
          go_round
          case rel => exact ⟨k + 1, by omega, by go_num, by rw [HS2.out]⟩
          case measure => simp [intOf]; omega
        · have HS2 : Hid (clipTo zs (k + 1) = m + 1) := HS.out
          go_wp2_with fail
          refine (C1.out _).mono ?_
          rintro e w' ⟨rfl, rfl⟩
          go_wp2_with fail
          refine (C2.out _).mono ?_
          rintro e w' ⟨rfl, rfl⟩
          go_wp2_with fail
          go_round
          case rel => exact ⟨k + 1, by omega, by go_num, by rw [HS2.out]; go_num⟩
          case measure => simp [intOf]; omega
      · have HS2 : Hid (clipTo zs (k + 1) = m + 1) := HS.out
        go_wp2_with fail
        refine (C1.out _).mono ?_
        rintro e w' ⟨rfl, rfl⟩
        go_wp2_with fail
        go_round
        case rel => exact ⟨k + 1, by omega, by go_num, by rw [HS2.out]; go_num⟩
        case measure => simp [intOf]; omega
    · have e : n = k := by omega
      subst e
      rw [show clipTo zs n = M from HM.out.symm]
      go_wp2_with fail
      go_ret2
      exact ⟨rfl, HB2.out⟩

set_option maxRecDepth 100000 in
set_option maxHeartbeats 1000000 in
theorem refClipped_ok (l s : Int) (v : Value) (zs : List (Nat × Nat)) (w : World) (hv : Sl w v (cvals .f32 zs)) (R : Right .f32 2047 zs) :
    Calls Tryd.prog 20 #[.agg #[.int .i64 l, .int .i64 s, v]] w fun e w' => e = .returned (.int .i64 (clipTo zs zs.length : Nat)) ∧ Below w.heap.size w w' := by
  obtain ⟨W0, hW0⟩ : ∃ W0, W0 = w.alloc (.cells #[.int .i64 l, .int .i64 s, v] 32) := ⟨_, rfl⟩
  have hb : Below w.heap.size w W0 := by rw [hW0]; exact (Below.refl _ _).alloc (Nat.le_refl _) _
  have H0 : W0.heap[w.heap.size]? = some (.cells #[.int .i64 l, .int .i64 s, v] 32 (0, 0)) := by rw [hW0]; exact heap_alloc_new _ _
  have HB := Lib.hid hb
  have HW0 := Lib.hid hW0
  have HV := Lib.hid (hv.below hb (Nat.le_refl _))
  have hzl : zs.length ≤ 140737488351232 := by obtain ⟨-, -, -, h, -⟩ := hv; simpa [cvals] using h
  obtain ⟨ad, cap, rfl, hvl, -⟩ := hv
  have hnc : (cvals .f32 zs).length = zs.length := by simp [cvals]
  rw [hnc] at hvl HV H0 HW0 ⊢
  obtain ⟨n, hn⟩ : ∃ n, n = zs.length := ⟨_, rfl⟩
  rw [← hn] at hvl HV H0 HW0 hzl ⊢
  have HN := Lib.hid hn
  have HR := Lib.hid R
  obtain ⟨M, hM⟩ : ∃ M, M = clipTo zs n := ⟨_, rfl⟩
  rw [← hM]
  have HM := Lib.hid hM
  obtain ⟨c0, c1, c2, -, -, -, lc⟩ := three_cells H0
  clear hb hW0 hnc hn R hM H0
  go_enter Tryd.func20, Tryd.ntmps20
  go_wp2_with fail
  rw [← HW0.out]
  go_loop [3, 4] (fun cv i => ∃ k : Nat, k ≤ n ∧ i = .int .i64 k ∧ cv = .int .i64 (clipTo zs k : Nat)) (fun _ i => n - (intOf i).toNat)
  case atStart => exact ⟨0, Nat.zero_le _, rfl, rfl⟩
  case round =>
    obtain ⟨k, hk, rfl, rfl⟩ := hrel
    have hcl := clipTo_le zs k
    by_cases hlt : k < n
    · obtain ⟨-, b1, o1, rfl, q1, g1⟩ := HV.out.at (by omega)
      have hkz : k < zs.length := by have := HN.out; omega
      have d1 : W0.cell? ⟨b1, o1 + k, none⟩ = some (.complex .f32 (zs.getD k (0, 0)).1 (zs.getD k (0, 0)).2) := g1 k _ (cvals_get hkz)
      obtain ⟨a1, a2, a3, a4⟩ := HR.out k hkz
      have CP := Lib.hid (fun w => refParts_any _ _ _ _ a1 a2 (by omega) (by omega) w)
      have C1 := Lib.hid (fun w => Size_any (re .f32 zs k) (by omega) (by omega) w)
      have C2 := Lib.hid (fun w => Size_any (im .f32 zs k) (by omega) (by omega) w)
      have HS : Hid (clipTo zs (k + 1) = clipTo zs k + if (decide ((re .f32 zs k).natAbs = 2047) || decide ((im .f32 zs k).natAbs = 2047)) then 1 else 0) := rfl
      generalize (re .f32 zs k).natAbs = p at *
      generalize (im .f32 zs k).natAbs = q at *
      generalize re .f32 zs k = rr at *
      generalize im .f32 zs k = ri at *
      generalize (zs.getD k (0, 0)).1 = z1 at *
      generalize (zs.getD k (0, 0)).2 = z2 at *
      obtain ⟨m, hm⟩ : ∃ m, m = clipTo zs k := ⟨_, rfl⟩
      rw [← hm] at HS hcl ⊢
      clear g1 q1 a1 a2 hm
      by_cases hp : p = 2047
      · have HS2 : Hid (clipTo zs (k + 1) = m + 1) := by have := HS.out; rw [decide_eq_true hp] at this; exact this
        have hpb : ((p : Int) == 2047) = true := by rw [beq_iff_eq]; omega
        clear HS hp
        go_wp2_with fail
        refine (CP.out _).mono ?_
        rintro e w' ⟨rfl, rfl⟩
        go_wp2_with fail
        refine (C1.out _).mono ?_
        rintro e w' ⟨rfl, rfl⟩
        go_wp2_with fail
        go_round
        case rel => exact ⟨k + 1, by omega, by go_num, by rw [HS2.out]; go_num⟩
        case measure => simp [intOf]; omega
      · have hpb : ((p : Int) == 2047) = false := by rw [beq_eq_false_iff_ne]; omega
        by_cases hq : q = 2047
        · have HS2 : Hid (clipTo zs (k + 1) = m + 1) := by have := HS.out; rw [decide_eq_false hp, decide_eq_true hq] at this; exact this
          have hqb : ((q : Int) == 2047) = true := by rw [beq_iff_eq]; omega
          clear HS hp hq
          go_wp2_with fail
          refine (CP.out _).mono ?_
          rintro e w' ⟨rfl, rfl⟩
          go_wp2_with fail
          refine (C1.out _).mono ?_
          rintro e w' ⟨rfl, rfl⟩
          go_wp2_with fail
          refine (C2.out _).mono ?_
          rintro e w' ⟨rfl, rfl⟩
          go_wp2_with fail
          go_round
          case rel => exact ⟨k + 1, by omega, by go_num, by rw [HS2.out]; go_num⟩
          case measure => simp [intOf]; omega
        · have HS2 : Hid (clipTo zs (k + 1) = m) := by have := HS.out; rw [decide_eq_false hp, decide_eq_false hq] at this; exact this
          have hqb : ((q : Int) == 2047) = false := by rw [beq_eq_false_iff_ne]; omega
          clear HS hp hq
          go_wp2_with fail
          refine (CP.out _).mono ?_
          rintro e w' ⟨rfl, rfl⟩
          go_wp2_with fail
          refine (C1.out _).mono ?_
          rintro e w' ⟨rfl, rfl⟩
          go_wp2_with fail
          refine (C2.out _).mono ?_
          rintro e w' ⟨rfl, rfl⟩
          go_wp2_with fail
          go_round
          case rel => exact ⟨k + 1, by omega, by go_num, by rw [HS2.out]⟩
          case measure => simp [intOf]; omega
    · have e : n = k := by omega
      subst e
      rw [show clipTo zs n = M from HM.out.symm]
      go_wp2_with fail
      go_ret
      exact ⟨rfl, HB.out⟩
end Go.Proofs.YtmmmaanflmgblaaDoor
