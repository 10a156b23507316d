import Derived.Test.YtjokfmbknkeeeaaZo
import Derived.Test.YtjokfmbknkeeeaaZn
import Derived.BigQuiet
import Derived.StillTailTactics
namespace Go.Proofs.Ytjokfmbknkeeeaa.Orb
open Go.RowKit Lib

theorem four_of {cs : Array Value} (h : cs.size = 4) : ∃ c0 c1 c2 c3, cs = #[c0, c1, c2, c3] := by
  obtain ⟨l⟩ := cs
  match l, h with
  | [a, b, c, d], _ => exact ⟨a, b, c, d, rfl⟩
theorem two_of {cs : Array Value} (h : cs.size = 2) : ∃ c0 c1, cs = #[c0, c1] := by
  obtain ⟨l⟩ := cs
  match l, h with
  | [a, b], _ => exact ⟨a, b, rfl⟩
theorem one_of {cs : Array Value} (h : cs.size = 1) : ∃ c0, cs = #[c0] := by
  obtain ⟨l⟩ := cs
  match l, h with
  | [a], _ => exact ⟨a, rfl⟩

set_option maxRecDepth 100000 in
set_option maxHeartbeats 8000000 in
/-- THE REFERENCE'S BASELINE -/
theorem refBaseline_any (v1 v2 : Value) (n1 n2 : ByteArray) (b1 b2 : Int) (L1 L2 : List St) (f s x y z : Int) (w : World) (hv1 : OV w v1 n1 b1 L1) (hv2 : OV w v2 n2 b2 L2) (hE1 : bsE1 (nameE n1) b1 L1 (nameE n2) b2 L2 f s x y z = 0) (hE2 : bsE2 (dvC L1 L2 f s) (svC L1 f x y z) = 0) :
    Calls Try.prog 15 #[v1, v2, .agg #[.int .i64 f, .int .i64 s, .int .i64 x, .int .i64 y, .int .i64 z]] w fun e w' => e = .returned (.agg #[.int .i64 (bsAl (dvC L1 L2 f s) (svC L1 f x y z)), .int .i64 (bsAh (dvC L1 L2 f s) (svC L1 f x y z)), .int .i64 (bsCl (dvC L1 L2 f s) (svC L1 f x y z)), .int .i64 (bsCh (dvC L1 L2 f s) (svC L1 f x y z))]) ∧ Below w.heap.size w w' := by
  obtain ⟨⟨-, hR1⟩, ⟨-, hR2⟩, ha, hb, hp⟩ := bsE1_zero hE1
  obtain ⟨r1, r2, r3⟩ := (placeE_zero x y z).1 hp
  have q := nom_bd hR1 ha.1 ha.2
  have r := nom_bd hR2 hb.1 hb.2
  have hsb : ∀ k, -200000000 ≤ svC L1 f x y z k ∧ svC L1 f x y z k ≤ 200000000 := by
    intro k
    have := q k
    unfold svC cc3
    split
    · omega
    · split <;> omega
  obtain ⟨⟨d0, d1, d2⟩, hq, hal, hah, hle, -⟩ := bs_ok hE2 hsb
  have u0 := q 0
  have u1 := q 1
  have u2 := q 2
  have t0 := r 0
  have t1 := r 1
  have t2 := r 2
  have CN1 := Lib.hid (fun W (h : Below w.heap.size w W) => refNominal_any v1 n1 b1 L1 hR1 f ha.1 ha.2 W (hv1.next h))
  have CN2 := Lib.hid (fun W (h : Below w.heap.size w W) => refNominal_any v2 n2 b2 L2 hR2 s hb.1 hb.2 W (hv2.next h))
  have CL1 : Hid (∀ W : World, Calls Try.prog 63 #[.agg #[.int .i64 (nomC L2 s 0), .int .i64 (nomC L2 s 1), .int .i64 (nomC L2 s 2)], .agg #[.int .i64 (nomC L1 f 0), .int .i64 (nomC L1 f 1), .int .i64 (nomC L1 f 2)]] W fun e w' => e = .returned (.agg #[.int .i64 (dvC L1 L2 f s 0), .int .i64 (dvC L1 L2 f s 1), .int .i64 (dvC L1 L2 f s 2)]) ∧ Below W.heap.size W w') :=
    fun W => refLess_any (nomC L2 s 0) (nomC L2 s 1) (nomC L2 s 2) (nomC L1 f 0) (nomC L1 f 1) (nomC L1 f 2) (by omega) (by omega) (by omega) (by omega) (by omega) (by omega) W
  have CL2 : Hid (∀ W : World, Calls Try.prog 63 #[.agg #[.int .i64 x, .int .i64 y, .int .i64 z], .agg #[.int .i64 (nomC L1 f 0), .int .i64 (nomC L1 f 1), .int .i64 (nomC L1 f 2)]] W fun e w' => e = .returned (.agg #[.int .i64 (svC L1 f x y z 0), .int .i64 (svC L1 f x y z 1), .int .i64 (svC L1 f x y z 2)]) ∧ Below W.heap.size W w') :=
    fun W => refLess_any x y z (nomC L1 f 0) (nomC L1 f 1) (nomC L1 f 2) (by omega) (by omega) (by omega) (by omega) (by omega) (by omega) W
  have CC := Lib.hid (fun W => refCoordinates_any x y z W)
  have e0 : bsAl (dvC L1 L2 f s) (svC L1 f x y z) = alLo (dot3 (dvC L1 L2 f s) (svC L1 f x y z)) (rootI (dot3 (svC L1 f x y z) (svC L1 f x y z))) (upOf (dot3 (svC L1 f x y z) (svC L1 f x y z)) (rootI (dot3 (svC L1 f x y z) (svC L1 f x y z)))) := rfl
  have e1 : bsAh (dvC L1 L2 f s) (svC L1 f x y z) = alHi (dot3 (dvC L1 L2 f s) (svC L1 f x y z)) (rootI (dot3 (svC L1 f x y z) (svC L1 f x y z))) (upOf (dot3 (svC L1 f x y z) (svC L1 f x y z)) (rootI (dot3 (svC L1 f x y z) (svC L1 f x y z)))) := rfl
  have e2 : bsCl (dvC L1 L2 f s) (svC L1 f x y z) = rootI (left0 (dot3 (dvC L1 L2 f s) (dvC L1 L2 f s)) (acG (bsAl (dvC L1 L2 f s) (svC L1 f x y z)) (bsAh (dvC L1 L2 f s) (svC L1 f x y z)))) := rfl
  have e3 : bsCh (dvC L1 L2 f s) (svC L1 f x y z) = upOf (left0 (dot3 (dvC L1 L2 f s) (dvC L1 L2 f s)) (acL (bsAl (dvC L1 L2 f s) (svC L1 f x y z)) (bsAh (dvC L1 L2 f s) (svC L1 f x y z)))) (rootI (left0 (dot3 (dvC L1 L2 f s) (dvC L1 L2 f s)) (acL (bsAl (dvC L1 L2 f s) (svC L1 f x y z)) (bsAh (dvC L1 L2 f s) (svC L1 f x y z))))) := rfl
  have s0 := hsb 0
  have s1 := hsb 1
  have s2 := hsb 2
  have hq' : 0 < svC L1 f x y z 0 * svC L1 f x y z 0 + svC L1 f x y z 1 * svC L1 f x y z 1 + svC L1 f x y z 2 * svC L1 f x y z 2 := hq
  have x0 : dot3 (dvC L1 L2 f s) (svC L1 f x y z) = dvC L1 L2 f s 0 * svC L1 f x y z 0 + dvC L1 L2 f s 1 * svC L1 f x y z 1 + dvC L1 L2 f s 2 * svC L1 f x y z 2 := rfl
  have x1 : dot3 (svC L1 f x y z) (svC L1 f x y z) = svC L1 f x y z 0 * svC L1 f x y z 0 + svC L1 f x y z 1 * svC L1 f x y z 1 + svC L1 f x y z 2 * svC L1 f x y z 2 := rfl
  have x2 : dot3 (dvC L1 L2 f s) (dvC L1 L2 f s) = dvC L1 L2 f s 0 * dvC L1 L2 f s 0 + dvC L1 L2 f s 1 * dvC L1 L2 f s 1 + dvC L1 L2 f s 2 * dvC L1 L2 f s 2 := rfl
  obtain ⟨sp1, cap1, hf1, -, -, -⟩ := hv1.form
  obtain ⟨sp2, cap2, hf2, -, -, -⟩ := hv2.form
  rw [x0, x1] at e0 e1
  rw [x2] at e2 e3
  clear hv1 hv2 hE1 hE2 hR1 hR2 ha hb hp r1 r2 r3 q r hsb u0 u1 u2 t0 t1 t2 hq x0 x1 x2
  subst hf1
  subst hf2
  generalize bsAl (dvC L1 L2 f s) (svC L1 f x y z) = al at *
  generalize bsAh (dvC L1 L2 f s) (svC L1 f x y z) = ah at *
  generalize bsCl (dvC L1 L2 f s) (svC L1 f x y z) = cl at *
  generalize bsCh (dvC L1 L2 f s) (svC L1 f x y z) = ch at *
  generalize dvC L1 L2 f s 0 = dx at *
  generalize dvC L1 L2 f s 1 = dy at *
  generalize dvC L1 L2 f s 2 = dz at *
  generalize svC L1 f x y z 0 = sx at *
  generalize svC L1 f x y z 1 = sy at *
  generalize svC L1 f x y z 2 = sz at *
  generalize nomC L1 f 0 = p0 at *
  generalize nomC L1 f 1 = p1 at *
  generalize nomC L1 f 2 = p2 at *
  generalize nomC L2 s 0 = q0 at *
  generalize nomC L2 s 1 = q1 at *
  generalize nomC L2 s 2 = q2 at *
  generalize L1.length = m1 at *
  generalize L2.length = m2 at *
  have g1 := mul_bd dx sx 200000000 (by omega) (by omega) (by omega) (by omega)
  have g2 := mul_bd dy sy 200000000 (by omega) (by omega) (by omega) (by omega)
  have g3 := mul_bd dz sz 200000000 (by omega) (by omega) (by omega) (by omega)
  have g4 := mul_bd sx sx 200000000 (by omega) (by omega) (by omega) (by omega)
  have g5 := mul_bd sy sy 200000000 (by omega) (by omega) (by omega) (by omega)
  have g6 := mul_bd sz sz 200000000 (by omega) (by omega) (by omega) (by omega)
  have g7 := mul_bd dx dx 1000000 (by omega) (by omega) (by omega) (by omega)
  have g8 := mul_bd dy dy 1000000 (by omega) (by omega) (by omega) (by omega)
  have g9 := mul_bd dz dz 1000000 (by omega) (by omega) (by omega) (by omega)
  have j7 := sq_ge dx
  have j8 := sq_ge dy
  have j9 := sq_ge dz
  have CP1 := Lib.hid (fun W => refProduct_any dx dy dz sx sy sz (by omega) (by omega) (by omega) (by omega) (by omega) (by omega) W)
  have CS1 := Lib.hid (fun W => refSum_any (dx * sx) (dy * sy) (dz * sz) (by omega) (by omega) (by omega) W)
  have CP2 := Lib.hid (fun W => refProduct_any sx sy sz sx sy sz (by omega) (by omega) (by omega) (by omega) (by omega) (by omega) W)
  have CS2 := Lib.hid (fun W => refSum_any (sx * sx) (sy * sy) (sz * sz) (by omega) (by omega) (by omega) W)
  have CP3 := Lib.hid (fun W => refProduct_any dx dy dz dx dy dz (by omega) (by omega) (by omega) (by omega) (by omega) (by omega) W)
  have CS3 := Lib.hid (fun W => refSum_any (dx * dx) (dy * dy) (dz * dz) (by omega) (by omega) (by omega) W)
  have k1 : -4611686018427387904 ≤ dx * sx + dy * sy + dz * sz := by omega
  have k2 : dx * sx + dy * sy + dz * sz ≤ 4611686018427387904 := by omega
  have k3 : sx * sx + sy * sy + sz * sz < 288230376151711744 := by omega
  have k4 : 0 ≤ dx * dx + dy * dy + dz * dz := by omega
  have k5 : dx * dx + dy * dy + dz * dz ≤ 3000000000000 := by omega
  clear d0 d1 d2 s0 s1 s2 g1 g2 g3 g4 g5 g6 g7 g8 g9 j7 j8 j9
  generalize hdot : dx * sx + dy * sy + dz * sz = dt at *
  generalize hsqu : sx * sx + sy * sy + sz * sz = sq at *
  generalize hall : dx * dx + dy * dy + dz * dz = all at *
  generalize dx * sx = y1 at *
  generalize dy * sy = y2 at *
  generalize dz * sz = y3 at *
  generalize sx * sx = y4 at *
  generalize sy * sy = y5 at *
  generalize sz * sz = y6 at *
  generalize dx * dx = y7 at *
  generalize dy * dy = y8 at *
  generalize dz * dz = y9 at *
  clear hdot hsqu hall
  have CD := Lib.hid (fun W => refRoot_any sq (by omega) k3 W)
  have CU := Lib.hid (fun W => refRootUp_any sq (by omega) k3 W)
  have hI := rootI_is sq (by omega) (by omega)
  have hu : rootI sq ≤ upOf sq (rootI sq) ∧ upOf sq (rootI sq) ≤ rootI sq + 1 := by unfold upOf; split <;> omega
  generalize upOf sq (rootI sq) = up at *
  generalize rootI sq = rt at *
  obtain ⟨r0, r1, r2⟩ := hI
  have hr := root_bd r1 (show (0 : Int) ≤ 536870912 by decide) (show sq < 536870912 * 536870912 by omega)
  have r3 : 0 < rt := by
    rcases Int.lt_or_eq_of_le r0 with h | h
    · exact h
    · subst h; omega
  have F1 := Lib.hid (fun W => Floor_any dt rt r3 (by omega) k1 k2 W)
  have F2 := Lib.hid (fun W => Floor_any dt up (by omega) (by omega) k1 k2 W)
  have G1 := Lib.hid (fun W => Ceil_any dt rt r3 (by omega) k1 k2 W)
  have G2 := Lib.hid (fun W => Ceil_any dt up (by omega) (by omega) k1 k2 W)
  have HM : Hid (al = if dt / rt ≤ dt / up then dt / rt else dt / up) := by unfold Hid; rw [e0]; exact Int.min_def _ _
  have HX : Hid (ah = if ceilI dt rt ≤ ceilI dt up then ceilI dt up else ceilI dt rt) := by unfold Hid; rw [e1]; exact Int.max_def _ _
  have HG := Lib.hid (acG_is hle)
  have HL := Lib.hid (acL_is hle)
  have CZ1 := Lib.hid (fun W => refSize_any al (by omega) (by omega) W)
  have CZ2 := Lib.hid (fun W => refSize_any ah (by omega) (by omega) W)
  have hgb := acL_le hle
  have hgb2 : acG al ah ≤ 3000000 := by unfold acG; omega
  clear hle hq' k1 k2 k3 hu r0 r1 r2 r3 hr e0 e1
  generalize dt / rt = f1 at *
  generalize dt / up = f2 at *
  generalize ceilI dt rt = c1 at *
  generalize ceilI dt up = c2 at *
  have HA : Hid ((0 < all - acG al ah * acG al ah ∧ left0 all (acG al ah) = all - acG al ah * acG al ah) ∨ (¬ 0 < all - acG al ah * acG al ah ∧ left0 all (acG al ah) = 0)) := by unfold Hid left0; omega
  have HC : Hid ((0 < all - acL al ah * acL al ah ∧ left0 all (acL al ah) = all - acL al ah * acL al ah) ∨ (¬ 0 < all - acL al ah * acL al ah ∧ left0 all (acL al ah) = 0)) := by unfold Hid left0; omega
  generalize acG al ah = g at *
  generalize acL al ah = l at *
  have v1 := mul_bd g g 100000000 (by omega) (by omega) (by omega) (by omega)
  have v2 := mul_bd l l 100000000 (by omega) (by omega) (by omega) (by omega)
  have v3 : 0 ≤ g * g := sq_ge g
  have v4 : 0 ≤ l * l := sq_ge l
  obtain ⟨gg, hgg⟩ : ∃ gg : Int, gg = g * g := ⟨_, rfl⟩
  obtain ⟨ll, hll⟩ : ∃ ll : Int, ll = l * l := ⟨_, rfl⟩
  obtain ⟨ma, hma⟩ : ∃ ma : Int, ma = all - gg := ⟨_, rfl⟩
  obtain ⟨mb, hmb⟩ : ∃ mb : Int, mb = all - ll := ⟨_, rfl⟩
  have w1 : IntKind.i64.wrap (g * g) = gg := by rw [hgg]; exact IntWalk.i64_in _ (by omega)
  have w2 : IntKind.i64.wrap (l * l) = ll := by rw [hll]; exact IntWalk.i64_in _ (by omega)
  have w3 : IntKind.i64.wrap (all - gg) = ma := by rw [hma]; exact IntWalk.i64_in _ (by omega)
  have w4 : IntKind.i64.wrap (all - ll) = mb := by rw [hmb]; exact IntWalk.i64_in _ (by omega)
  rw [← hgg, ← hma] at HA
  rw [← hll, ← hmb] at HC
  have HW := Lib.hid (And.intro w1 (And.intro w2 (And.intro w3 w4)))
  have t1 : 0 ≤ left0 all g ∧ left0 all g < 288230376151711744 := by unfold left0; omega
  have t2 : 0 ≤ left0 all l ∧ left0 all l < 288230376151711744 := by unfold left0; omega
  have CD2 := Lib.hid (fun W => refRoot_any (left0 all g) t1.1 t1.2 W)
  have CU2 := Lib.hid (fun W => refRootUp_any (left0 all l) t2.1 t2.2 W)
  rw [← e2] at CD2
  rw [← e3] at CU2
  clear t1 t2 v1 v2 v3 v4 w1 w2 w3 w4 hgg hll hma hmb e2 e3 hgb hgb2 hal hah k4 k5
  generalize left0 all g = mA at *
  generalize left0 all l = mB at *
  go_enter Try.func15, Try.ntmps15
  go_upto_region 1 with fail
  obtain ⟨w3, hW0⟩ : ∃ W0, W0 = (((w.alloc (.cells #[.string n1, .int .i64 b1, .slice sp1 m1 cap1] 24)).alloc (.cells #[.string n2, .int .i64 b2, .slice sp2 m2 cap2] 24)).alloc (.cells #[.int .i64 f, .int .i64 s, .int .i64 x, .int .i64 y, .int .i64 z] 30)).alloc (.cells #[.int .i64 0, .int .i64 0, .int .i64 0, .int .i64 0] 35) := ⟨_, rfl⟩
  rw [← hW0]
  have HB3 := Lib.hid (show Below w.heap.size w w3 by rw [hW0]; (repeat (first | with_reducible exact Below.refl _ _ | with_reducible refine alloc1 ?_ _ | with_reducible refine Below.drew ?_ | with_reducible refine drewN1 ?_ _ | with_reducible refine setC ?_ (by omega) _)))
  have HV3 := Lib.hid (show w3.heap[w.heap.size]? = some (.cells #[.string n1, .int .i64 b1, .slice sp1 m1 cap1] 24 (0, 0)) by rw [hW0]; (repeat (first | ((with_reducible refine hnew ?_); (simp; done)) | with_reducible refine hdrew ?_ | with_reducible refine hold ?_)))
  have HU3 := Lib.hid (show w3.heap[w.heap.size + 1]? = some (.cells #[.string n2, .int .i64 b2, .slice sp2 m2 cap2] 24 (0, 0)) by rw [hW0]; (repeat (first | ((with_reducible refine hnew ?_); (simp; done)) | with_reducible refine hdrew ?_ | with_reducible refine hold ?_)))
  have HX3 := Lib.hid (show w3.heap[w.heap.size + 1 + 1]? = some (.cells #[.int .i64 f, .int .i64 s, .int .i64 x, .int .i64 y, .int .i64 z] 30 (0, 0)) by rw [hW0]; (repeat (first | ((with_reducible refine hnew ?_); (simp; done)) | with_reducible refine hdrew ?_ | with_reducible refine hold ?_)))
  have HR3 := Lib.hid (show w3.heap[w.heap.size + 1 + 1 + 1]? = some (.cells #[.int .i64 0, .int .i64 0, .int .i64 0, .int .i64 0] 35 (0, 0)) by rw [hW0]; (repeat (first | ((with_reducible refine hnew ?_); (simp; done)) | with_reducible refine hdrew ?_ | with_reducible refine hold ?_)))
  clear hW0
  refine region_vals (fun lv yv W => Below w3.heap.size w3 W ∧ (lv 0 = true → yv 0 = .agg #[.string n1, .int .i64 b1, .slice sp1 m1 cap1]) ∧ (lv 1 = true → yv 1 = .pointer (some ⟨w.heap.size + 1 + 1, 0, none⟩)) ∧ (lv 2 = true → yv 2 = .int .i64 f) ∧ (lv 3 = true → yv 3 = .agg #[.int .i64 p0, .int .i64 p1, .int .i64 p2]) ∧ (lv 4 = true → yv 4 = .agg #[.int .i64 p0, .int .i64 p1, .int .i64 p2]) ∧ (lv 5 = true → yv 5 = .agg #[.string n2, .int .i64 b2, .slice sp2 m2 cap2]) ∧ (lv 6 = true → yv 6 = .pointer (some ⟨w.heap.size + 1 + 1, 1, none⟩)) ∧ (lv 7 = true → yv 7 = .int .i64 s) ∧ (lv 8 = true → yv 8 = .agg #[.int .i64 q0, .int .i64 q1, .int .i64 q2]) ∧ (lv 9 = true → yv 9 = .agg #[.int .i64 q0, .int .i64 q1, .int .i64 q2]) ∧ (lv 10 = true → OwnB 64 3 w3.heap.size (yv 10) W) ∧ (lv 11 = true → OwnB 64 3 w3.heap.size (yv 11) W) ∧ (lv 12 = true → lv 10 = true ∧ HasC 64 #[.int .i64 p0, .int .i64 p1, .int .i64 p2] (yv 10) W) ∧ (lv 13 = true → lv 11 = true ∧ HasC 64 #[.int .i64 q0, .int .i64 q1, .int .i64 q2] (yv 11) W) ∧ (lv 10 = true → lv 11 = true → yv 10 ≠ yv 11)) (fun _ => undef) (by kernel_rfl) (by kernel_rfl) (by kernel_rfl) ⟨(Below.refl _ w3).drew, fun h => absurd h Bool.false_ne_true, fun h => absurd h Bool.false_ne_true, fun h => absurd h Bool.false_ne_true, fun h => absurd h Bool.false_ne_true, fun h => absurd h Bool.false_ne_true, fun h => absurd h Bool.false_ne_true, fun h => absurd h Bool.false_ne_true, fun h => absurd h Bool.false_ne_true, fun h => absurd h Bool.false_ne_true, fun h => absurd h Bool.false_ne_true, fun h => absurd h Bool.false_ne_true, fun h => absurd h Bool.false_ne_true, fun h => absurd h Bool.false_ne_true, fun h => absurd h Bool.false_ne_true, fun h => absurd h Bool.false_ne_true⟩ ?_ ?_
  · -- the operations
    refine Steps.val (k' := 1) (.agg #[.string n1, .int .i64 b1, .slice sp1 m1 cap1]) rfl (fun _ => by kernel_rfl) (fun _ => by kernel_rfl) ?_ ?_ ?_
    · intro lv yv WQ hd hI
      have HBQ := hI.1
      have h0 := hI.2.1
      have h1 := hI.2.2.1
      have h2 := hI.2.2.2.1
      have h3 := hI.2.2.2.2.1
      have h4 := hI.2.2.2.2.2.1
      have h5 := hI.2.2.2.2.2.2.1
      have h6 := hI.2.2.2.2.2.2.2.1
      have h7 := hI.2.2.2.2.2.2.2.2.1
      have h8 := hI.2.2.2.2.2.2.2.2.2.1
      have h9 := hI.2.2.2.2.2.2.2.2.2.2.1
      have h10 := hI.2.2.2.2.2.2.2.2.2.2.2.1
      have h11 := hI.2.2.2.2.2.2.2.2.2.2.2.2.1
      have h12 := hI.2.2.2.2.2.2.2.2.2.2.2.2.2.1
      have h13 := hI.2.2.2.2.2.2.2.2.2.2.2.2.2.2.1
      have g10_11 := hI.2.2.2.2.2.2.2.2.2.2.2.2.2.2.2
      clear hI
      simp only [putAll, Act.put, List.setIfInBounds_toArray, List.set_cons_succ, List.set_cons_zero]
      clear h0 h1 h2 h3 h4 h5 h6 h7 h8 h9 h10 h11 h12 h13 g10_11 hd
      obtain ⟨zq0, zq1, zq2⟩ := cells3 (keepb HBQ HV3.out)
      unfold Oper.quietAt
      go_simp
    · intro lv yv WQ W' hI hb
      have HBQ := hI.1
      have h0 := hI.2.1
      have h1 := hI.2.2.1
      have h2 := hI.2.2.2.1
      have h3 := hI.2.2.2.2.1
      have h4 := hI.2.2.2.2.2.1
      have h5 := hI.2.2.2.2.2.2.1
      have h6 := hI.2.2.2.2.2.2.2.1
      have h7 := hI.2.2.2.2.2.2.2.2.1
      have h8 := hI.2.2.2.2.2.2.2.2.2.1
      have h9 := hI.2.2.2.2.2.2.2.2.2.2.1
      have h10 := hI.2.2.2.2.2.2.2.2.2.2.2.1
      have h11 := hI.2.2.2.2.2.2.2.2.2.2.2.2.1
      have h12 := hI.2.2.2.2.2.2.2.2.2.2.2.2.2.1
      have h13 := hI.2.2.2.2.2.2.2.2.2.2.2.2.2.2.1
      have g10_11 := hI.2.2.2.2.2.2.2.2.2.2.2.2.2.2.2
      clear hI
      exact ⟨andThen HBQ hb, fun _ => rfl, h1, h2, h3, h4, h5, h6, h7, h8, h9, fun h => (h10 h).next hb, fun h => (h11 h).next hb, fun h => ⟨(h12 h).1, (h12 h).2.next hb⟩, fun h => ⟨(h13 h).1, (h13 h).2.next hb⟩, g10_11⟩
    refine Steps.val (k' := 2) (.pointer (some ⟨w.heap.size + 1 + 1, 0, none⟩)) rfl (fun _ => by kernel_rfl) (fun _ => by kernel_rfl) ?_ ?_ ?_
    · intro lv yv WQ hd hI
      have HBQ := hI.1
      have h0 := hI.2.1
      have h1 := hI.2.2.1
      have h2 := hI.2.2.2.1
      have h3 := hI.2.2.2.2.1
      have h4 := hI.2.2.2.2.2.1
      have h5 := hI.2.2.2.2.2.2.1
      have h6 := hI.2.2.2.2.2.2.2.1
      have h7 := hI.2.2.2.2.2.2.2.2.1
      have h8 := hI.2.2.2.2.2.2.2.2.2.1
      have h9 := hI.2.2.2.2.2.2.2.2.2.2.1
      have h10 := hI.2.2.2.2.2.2.2.2.2.2.2.1
      have h11 := hI.2.2.2.2.2.2.2.2.2.2.2.2.1
      have h12 := hI.2.2.2.2.2.2.2.2.2.2.2.2.2.1
      have h13 := hI.2.2.2.2.2.2.2.2.2.2.2.2.2.2.1
      have g10_11 := hI.2.2.2.2.2.2.2.2.2.2.2.2.2.2.2
      clear hI
      simp only [putAll, Act.put, List.setIfInBounds_toArray, List.set_cons_succ, List.set_cons_zero]
      clear h0 h1 h2 h3 h4 h5 h6 h7 h8 h9 h10 h11 h12 h13 g10_11 hd
      unfold Oper.quietAt
      go_simp
    · intro lv yv WQ W' hI hb
      have HBQ := hI.1
      have h0 := hI.2.1
      have h1 := hI.2.2.1
      have h2 := hI.2.2.2.1
      have h3 := hI.2.2.2.2.1
      have h4 := hI.2.2.2.2.2.1
      have h5 := hI.2.2.2.2.2.2.1
      have h6 := hI.2.2.2.2.2.2.2.1
      have h7 := hI.2.2.2.2.2.2.2.2.1
      have h8 := hI.2.2.2.2.2.2.2.2.2.1
      have h9 := hI.2.2.2.2.2.2.2.2.2.2.1
      have h10 := hI.2.2.2.2.2.2.2.2.2.2.2.1
      have h11 := hI.2.2.2.2.2.2.2.2.2.2.2.2.1
      have h12 := hI.2.2.2.2.2.2.2.2.2.2.2.2.2.1
      have h13 := hI.2.2.2.2.2.2.2.2.2.2.2.2.2.2.1
      have g10_11 := hI.2.2.2.2.2.2.2.2.2.2.2.2.2.2.2
      clear hI
      exact ⟨andThen HBQ hb, h0, fun _ => rfl, h2, h3, h4, h5, h6, h7, h8, h9, fun h => (h10 h).next hb, fun h => (h11 h).next hb, fun h => ⟨(h12 h).1, (h12 h).2.next hb⟩, fun h => ⟨(h13 h).1, (h13 h).2.next hb⟩, g10_11⟩
    refine Steps.val (k' := 3) (.int .i64 f) rfl (fun _ => by kernel_rfl) (fun _ => by kernel_rfl) ?_ ?_ ?_
    · intro lv yv WQ hd hI
      have HBQ := hI.1
      have h0 := hI.2.1
      have h1 := hI.2.2.1
      have h2 := hI.2.2.2.1
      have h3 := hI.2.2.2.2.1
      have h4 := hI.2.2.2.2.2.1
      have h5 := hI.2.2.2.2.2.2.1
      have h6 := hI.2.2.2.2.2.2.2.1
      have h7 := hI.2.2.2.2.2.2.2.2.1
      have h8 := hI.2.2.2.2.2.2.2.2.2.1
      have h9 := hI.2.2.2.2.2.2.2.2.2.2.1
      have h10 := hI.2.2.2.2.2.2.2.2.2.2.2.1
      have h11 := hI.2.2.2.2.2.2.2.2.2.2.2.2.1
      have h12 := hI.2.2.2.2.2.2.2.2.2.2.2.2.2.1
      have h13 := hI.2.2.2.2.2.2.2.2.2.2.2.2.2.2.1
      have g10_11 := hI.2.2.2.2.2.2.2.2.2.2.2.2.2.2.2
      clear hI
      have d1 := dep_of hd 1 (by kernel_rfl)
      simp only [putAll, Act.put, List.setIfInBounds_toArray, List.set_cons_succ, List.set_cons_zero]
      rw [h1 d1]
      clear h0 h1 h2 h3 h4 h5 h6 h7 h8 h9 h10 h11 h12 h13 g10_11 d1 hd
      obtain ⟨zq0, zq1, zq2, zq3, zq4⟩ := cells5 (keepb HBQ HX3.out)
      unfold Oper.quietAt
      go_simp
    · intro lv yv WQ W' hI hb
      have HBQ := hI.1
      have h0 := hI.2.1
      have h1 := hI.2.2.1
      have h2 := hI.2.2.2.1
      have h3 := hI.2.2.2.2.1
      have h4 := hI.2.2.2.2.2.1
      have h5 := hI.2.2.2.2.2.2.1
      have h6 := hI.2.2.2.2.2.2.2.1
      have h7 := hI.2.2.2.2.2.2.2.2.1
      have h8 := hI.2.2.2.2.2.2.2.2.2.1
      have h9 := hI.2.2.2.2.2.2.2.2.2.2.1
      have h10 := hI.2.2.2.2.2.2.2.2.2.2.2.1
      have h11 := hI.2.2.2.2.2.2.2.2.2.2.2.2.1
      have h12 := hI.2.2.2.2.2.2.2.2.2.2.2.2.2.1
      have h13 := hI.2.2.2.2.2.2.2.2.2.2.2.2.2.2.1
      have g10_11 := hI.2.2.2.2.2.2.2.2.2.2.2.2.2.2.2
      clear hI
      exact ⟨andThen HBQ hb, h0, h1, fun _ => rfl, h3, h4, h5, h6, h7, h8, h9, fun h => (h10 h).next hb, fun h => (h11 h).next hb, fun h => ⟨(h12 h).1, (h12 h).2.next hb⟩, fun h => ⟨(h13 h).1, (h13 h).2.next hb⟩, g10_11⟩
    refine Steps.val (k' := 4) (.agg #[.int .i64 p0, .int .i64 p1, .int .i64 p2]) rfl (fun _ => by kernel_rfl) (fun _ => by kernel_rfl) ?_ ?_ ?_
    · intro lv yv WQ hd hI
      have HBQ := hI.1
      have h0 := hI.2.1
      have h1 := hI.2.2.1
      have h2 := hI.2.2.2.1
      have h3 := hI.2.2.2.2.1
      have h4 := hI.2.2.2.2.2.1
      have h5 := hI.2.2.2.2.2.2.1
      have h6 := hI.2.2.2.2.2.2.2.1
      have h7 := hI.2.2.2.2.2.2.2.2.1
      have h8 := hI.2.2.2.2.2.2.2.2.2.1
      have h9 := hI.2.2.2.2.2.2.2.2.2.2.1
      have h10 := hI.2.2.2.2.2.2.2.2.2.2.2.1
      have h11 := hI.2.2.2.2.2.2.2.2.2.2.2.2.1
      have h12 := hI.2.2.2.2.2.2.2.2.2.2.2.2.2.1
      have h13 := hI.2.2.2.2.2.2.2.2.2.2.2.2.2.2.1
      have g10_11 := hI.2.2.2.2.2.2.2.2.2.2.2.2.2.2.2
      clear hI
      have d0 := dep_of hd 0 (by kernel_rfl)
      have d2 := dep_of hd 2 (by kernel_rfl)
      simp only [putAll, Act.put, List.setIfInBounds_toArray, List.set_cons_succ, List.set_cons_zero]
      rw [h0 d0, h2 d2]
      clear h0 h1 h2 h3 h4 h5 h6 h7 h8 h9 h10 h11 h12 h13 g10_11 d0 d2 hd
      unfold Oper.quietAt
      go_simp
      exact (CN1.out WQ (trans' HB3.out HBQ))
    · intro lv yv WQ W' hI hb
      have HBQ := hI.1
      have h0 := hI.2.1
      have h1 := hI.2.2.1
      have h2 := hI.2.2.2.1
      have h3 := hI.2.2.2.2.1
      have h4 := hI.2.2.2.2.2.1
      have h5 := hI.2.2.2.2.2.2.1
      have h6 := hI.2.2.2.2.2.2.2.1
      have h7 := hI.2.2.2.2.2.2.2.2.1
      have h8 := hI.2.2.2.2.2.2.2.2.2.1
      have h9 := hI.2.2.2.2.2.2.2.2.2.2.1
      have h10 := hI.2.2.2.2.2.2.2.2.2.2.2.1
      have h11 := hI.2.2.2.2.2.2.2.2.2.2.2.2.1
      have h12 := hI.2.2.2.2.2.2.2.2.2.2.2.2.2.1
      have h13 := hI.2.2.2.2.2.2.2.2.2.2.2.2.2.2.1
      have g10_11 := hI.2.2.2.2.2.2.2.2.2.2.2.2.2.2.2
      clear hI
      exact ⟨andThen HBQ hb, h0, h1, h2, fun _ => rfl, h4, h5, h6, h7, h8, h9, fun h => (h10 h).next hb, fun h => (h11 h).next hb, fun h => ⟨(h12 h).1, (h12 h).2.next hb⟩, fun h => ⟨(h13 h).1, (h13 h).2.next hb⟩, g10_11⟩
    refine Steps.val (k' := 5) (.agg #[.int .i64 p0, .int .i64 p1, .int .i64 p2]) rfl (fun _ => by kernel_rfl) (fun _ => by kernel_rfl) ?_ ?_ ?_
    · intro lv yv WQ hd hI
      have HBQ := hI.1
      have h0 := hI.2.1
      have h1 := hI.2.2.1
      have h2 := hI.2.2.2.1
      have h3 := hI.2.2.2.2.1
      have h4 := hI.2.2.2.2.2.1
      have h5 := hI.2.2.2.2.2.2.1
      have h6 := hI.2.2.2.2.2.2.2.1
      have h7 := hI.2.2.2.2.2.2.2.2.1
      have h8 := hI.2.2.2.2.2.2.2.2.2.1
      have h9 := hI.2.2.2.2.2.2.2.2.2.2.1
      have h10 := hI.2.2.2.2.2.2.2.2.2.2.2.1
      have h11 := hI.2.2.2.2.2.2.2.2.2.2.2.2.1
      have h12 := hI.2.2.2.2.2.2.2.2.2.2.2.2.2.1
      have h13 := hI.2.2.2.2.2.2.2.2.2.2.2.2.2.2.1
      have g10_11 := hI.2.2.2.2.2.2.2.2.2.2.2.2.2.2.2
      clear hI
      have d3 := dep_of hd 3 (by kernel_rfl)
      simp only [putAll, Act.put, List.setIfInBounds_toArray, List.set_cons_succ, List.set_cons_zero]
      rw [h3 d3]
      clear h0 h1 h2 h3 h4 h5 h6 h7 h8 h9 h10 h11 h12 h13 g10_11 d3 hd
      unfold Oper.quietAt
      go_simp
      exact (refCoordinates_any p0 p1 p2 WQ)
    · intro lv yv WQ W' hI hb
      have HBQ := hI.1
      have h0 := hI.2.1
      have h1 := hI.2.2.1
      have h2 := hI.2.2.2.1
      have h3 := hI.2.2.2.2.1
      have h4 := hI.2.2.2.2.2.1
      have h5 := hI.2.2.2.2.2.2.1
      have h6 := hI.2.2.2.2.2.2.2.1
      have h7 := hI.2.2.2.2.2.2.2.2.1
      have h8 := hI.2.2.2.2.2.2.2.2.2.1
      have h9 := hI.2.2.2.2.2.2.2.2.2.2.1
      have h10 := hI.2.2.2.2.2.2.2.2.2.2.2.1
      have h11 := hI.2.2.2.2.2.2.2.2.2.2.2.2.1
      have h12 := hI.2.2.2.2.2.2.2.2.2.2.2.2.2.1
      have h13 := hI.2.2.2.2.2.2.2.2.2.2.2.2.2.2.1
      have g10_11 := hI.2.2.2.2.2.2.2.2.2.2.2.2.2.2.2
      clear hI
      exact ⟨andThen HBQ hb, h0, h1, h2, h3, fun _ => rfl, h5, h6, h7, h8, h9, fun h => (h10 h).next hb, fun h => (h11 h).next hb, fun h => ⟨(h12 h).1, (h12 h).2.next hb⟩, fun h => ⟨(h13 h).1, (h13 h).2.next hb⟩, g10_11⟩
    refine Steps.val (k' := 6) (.agg #[.string n2, .int .i64 b2, .slice sp2 m2 cap2]) rfl (fun _ => by kernel_rfl) (fun _ => by kernel_rfl) ?_ ?_ ?_
    · intro lv yv WQ hd hI
      have HBQ := hI.1
      have h0 := hI.2.1
      have h1 := hI.2.2.1
      have h2 := hI.2.2.2.1
      have h3 := hI.2.2.2.2.1
      have h4 := hI.2.2.2.2.2.1
      have h5 := hI.2.2.2.2.2.2.1
      have h6 := hI.2.2.2.2.2.2.2.1
      have h7 := hI.2.2.2.2.2.2.2.2.1
      have h8 := hI.2.2.2.2.2.2.2.2.2.1
      have h9 := hI.2.2.2.2.2.2.2.2.2.2.1
      have h10 := hI.2.2.2.2.2.2.2.2.2.2.2.1
      have h11 := hI.2.2.2.2.2.2.2.2.2.2.2.2.1
      have h12 := hI.2.2.2.2.2.2.2.2.2.2.2.2.2.1
      have h13 := hI.2.2.2.2.2.2.2.2.2.2.2.2.2.2.1
      have g10_11 := hI.2.2.2.2.2.2.2.2.2.2.2.2.2.2.2
      clear hI
      simp only [putAll, Act.put, List.setIfInBounds_toArray, List.set_cons_succ, List.set_cons_zero]
      clear h0 h1 h2 h3 h4 h5 h6 h7 h8 h9 h10 h11 h12 h13 g10_11 hd
      obtain ⟨zq0, zq1, zq2⟩ := cells3 (keepb HBQ HU3.out)
      unfold Oper.quietAt
      go_simp
    · intro lv yv WQ W' hI hb
      have HBQ := hI.1
      have h0 := hI.2.1
      have h1 := hI.2.2.1
      have h2 := hI.2.2.2.1
      have h3 := hI.2.2.2.2.1
      have h4 := hI.2.2.2.2.2.1
      have h5 := hI.2.2.2.2.2.2.1
      have h6 := hI.2.2.2.2.2.2.2.1
      have h7 := hI.2.2.2.2.2.2.2.2.1
      have h8 := hI.2.2.2.2.2.2.2.2.2.1
      have h9 := hI.2.2.2.2.2.2.2.2.2.2.1
      have h10 := hI.2.2.2.2.2.2.2.2.2.2.2.1
      have h11 := hI.2.2.2.2.2.2.2.2.2.2.2.2.1
      have h12 := hI.2.2.2.2.2.2.2.2.2.2.2.2.2.1
      have h13 := hI.2.2.2.2.2.2.2.2.2.2.2.2.2.2.1
      have g10_11 := hI.2.2.2.2.2.2.2.2.2.2.2.2.2.2.2
      clear hI
      exact ⟨andThen HBQ hb, h0, h1, h2, h3, h4, fun _ => rfl, h6, h7, h8, h9, fun h => (h10 h).next hb, fun h => (h11 h).next hb, fun h => ⟨(h12 h).1, (h12 h).2.next hb⟩, fun h => ⟨(h13 h).1, (h13 h).2.next hb⟩, g10_11⟩
    refine Steps.val (k' := 7) (.pointer (some ⟨w.heap.size + 1 + 1, 1, none⟩)) rfl (fun _ => by kernel_rfl) (fun _ => by kernel_rfl) ?_ ?_ ?_
    · intro lv yv WQ hd hI
      have HBQ := hI.1
      have h0 := hI.2.1
      have h1 := hI.2.2.1
      have h2 := hI.2.2.2.1
      have h3 := hI.2.2.2.2.1
      have h4 := hI.2.2.2.2.2.1
      have h5 := hI.2.2.2.2.2.2.1
      have h6 := hI.2.2.2.2.2.2.2.1
      have h7 := hI.2.2.2.2.2.2.2.2.1
      have h8 := hI.2.2.2.2.2.2.2.2.2.1
      have h9 := hI.2.2.2.2.2.2.2.2.2.2.1
      have h10 := hI.2.2.2.2.2.2.2.2.2.2.2.1
      have h11 := hI.2.2.2.2.2.2.2.2.2.2.2.2.1
      have h12 := hI.2.2.2.2.2.2.2.2.2.2.2.2.2.1
      have h13 := hI.2.2.2.2.2.2.2.2.2.2.2.2.2.2.1
      have g10_11 := hI.2.2.2.2.2.2.2.2.2.2.2.2.2.2.2
      clear hI
      simp only [putAll, Act.put, List.setIfInBounds_toArray, List.set_cons_succ, List.set_cons_zero]
      clear h0 h1 h2 h3 h4 h5 h6 h7 h8 h9 h10 h11 h12 h13 g10_11 hd
      unfold Oper.quietAt
      go_simp
    · intro lv yv WQ W' hI hb
      have HBQ := hI.1
      have h0 := hI.2.1
      have h1 := hI.2.2.1
      have h2 := hI.2.2.2.1
      have h3 := hI.2.2.2.2.1
      have h4 := hI.2.2.2.2.2.1
      have h5 := hI.2.2.2.2.2.2.1
      have h6 := hI.2.2.2.2.2.2.2.1
      have h7 := hI.2.2.2.2.2.2.2.2.1
      have h8 := hI.2.2.2.2.2.2.2.2.2.1
      have h9 := hI.2.2.2.2.2.2.2.2.2.2.1
      have h10 := hI.2.2.2.2.2.2.2.2.2.2.2.1
      have h11 := hI.2.2.2.2.2.2.2.2.2.2.2.2.1
      have h12 := hI.2.2.2.2.2.2.2.2.2.2.2.2.2.1
      have h13 := hI.2.2.2.2.2.2.2.2.2.2.2.2.2.2.1
      have g10_11 := hI.2.2.2.2.2.2.2.2.2.2.2.2.2.2.2
      clear hI
      exact ⟨andThen HBQ hb, h0, h1, h2, h3, h4, h5, fun _ => rfl, h7, h8, h9, fun h => (h10 h).next hb, fun h => (h11 h).next hb, fun h => ⟨(h12 h).1, (h12 h).2.next hb⟩, fun h => ⟨(h13 h).1, (h13 h).2.next hb⟩, g10_11⟩
    refine Steps.val (k' := 8) (.int .i64 s) rfl (fun _ => by kernel_rfl) (fun _ => by kernel_rfl) ?_ ?_ ?_
    · intro lv yv WQ hd hI
      have HBQ := hI.1
      have h0 := hI.2.1
      have h1 := hI.2.2.1
      have h2 := hI.2.2.2.1
      have h3 := hI.2.2.2.2.1
      have h4 := hI.2.2.2.2.2.1
      have h5 := hI.2.2.2.2.2.2.1
      have h6 := hI.2.2.2.2.2.2.2.1
      have h7 := hI.2.2.2.2.2.2.2.2.1
      have h8 := hI.2.2.2.2.2.2.2.2.2.1
      have h9 := hI.2.2.2.2.2.2.2.2.2.2.1
      have h10 := hI.2.2.2.2.2.2.2.2.2.2.2.1
      have h11 := hI.2.2.2.2.2.2.2.2.2.2.2.2.1
      have h12 := hI.2.2.2.2.2.2.2.2.2.2.2.2.2.1
      have h13 := hI.2.2.2.2.2.2.2.2.2.2.2.2.2.2.1
      have g10_11 := hI.2.2.2.2.2.2.2.2.2.2.2.2.2.2.2
      clear hI
      have d6 := dep_of hd 6 (by kernel_rfl)
      simp only [putAll, Act.put, List.setIfInBounds_toArray, List.set_cons_succ, List.set_cons_zero]
      rw [h6 d6]
      clear h0 h1 h2 h3 h4 h5 h6 h7 h8 h9 h10 h11 h12 h13 g10_11 d6 hd
      obtain ⟨zq0, zq1, zq2, zq3, zq4⟩ := cells5 (keepb HBQ HX3.out)
      unfold Oper.quietAt
      go_simp
    · intro lv yv WQ W' hI hb
      have HBQ := hI.1
      have h0 := hI.2.1
      have h1 := hI.2.2.1
      have h2 := hI.2.2.2.1
      have h3 := hI.2.2.2.2.1
      have h4 := hI.2.2.2.2.2.1
      have h5 := hI.2.2.2.2.2.2.1
      have h6 := hI.2.2.2.2.2.2.2.1
      have h7 := hI.2.2.2.2.2.2.2.2.1
      have h8 := hI.2.2.2.2.2.2.2.2.2.1
      have h9 := hI.2.2.2.2.2.2.2.2.2.2.1
      have h10 := hI.2.2.2.2.2.2.2.2.2.2.2.1
      have h11 := hI.2.2.2.2.2.2.2.2.2.2.2.2.1
      have h12 := hI.2.2.2.2.2.2.2.2.2.2.2.2.2.1
      have h13 := hI.2.2.2.2.2.2.2.2.2.2.2.2.2.2.1
      have g10_11 := hI.2.2.2.2.2.2.2.2.2.2.2.2.2.2.2
      clear hI
      exact ⟨andThen HBQ hb, h0, h1, h2, h3, h4, h5, h6, fun _ => rfl, h8, h9, fun h => (h10 h).next hb, fun h => (h11 h).next hb, fun h => ⟨(h12 h).1, (h12 h).2.next hb⟩, fun h => ⟨(h13 h).1, (h13 h).2.next hb⟩, g10_11⟩
    refine Steps.val (k' := 9) (.agg #[.int .i64 q0, .int .i64 q1, .int .i64 q2]) rfl (fun _ => by kernel_rfl) (fun _ => by kernel_rfl) ?_ ?_ ?_
    · intro lv yv WQ hd hI
      have HBQ := hI.1
      have h0 := hI.2.1
      have h1 := hI.2.2.1
      have h2 := hI.2.2.2.1
      have h3 := hI.2.2.2.2.1
      have h4 := hI.2.2.2.2.2.1
      have h5 := hI.2.2.2.2.2.2.1
      have h6 := hI.2.2.2.2.2.2.2.1
      have h7 := hI.2.2.2.2.2.2.2.2.1
      have h8 := hI.2.2.2.2.2.2.2.2.2.1
      have h9 := hI.2.2.2.2.2.2.2.2.2.2.1
      have h10 := hI.2.2.2.2.2.2.2.2.2.2.2.1
      have h11 := hI.2.2.2.2.2.2.2.2.2.2.2.2.1
      have h12 := hI.2.2.2.2.2.2.2.2.2.2.2.2.2.1
      have h13 := hI.2.2.2.2.2.2.2.2.2.2.2.2.2.2.1
      have g10_11 := hI.2.2.2.2.2.2.2.2.2.2.2.2.2.2.2
      clear hI
      have d5 := dep_of hd 5 (by kernel_rfl)
      have d7 := dep_of hd 7 (by kernel_rfl)
      simp only [putAll, Act.put, List.setIfInBounds_toArray, List.set_cons_succ, List.set_cons_zero]
      rw [h5 d5, h7 d7]
      clear h0 h1 h2 h3 h4 h5 h6 h7 h8 h9 h10 h11 h12 h13 g10_11 d5 d7 hd
      unfold Oper.quietAt
      go_simp
      exact (CN2.out WQ (trans' HB3.out HBQ))
    · intro lv yv WQ W' hI hb
      have HBQ := hI.1
      have h0 := hI.2.1
      have h1 := hI.2.2.1
      have h2 := hI.2.2.2.1
      have h3 := hI.2.2.2.2.1
      have h4 := hI.2.2.2.2.2.1
      have h5 := hI.2.2.2.2.2.2.1
      have h6 := hI.2.2.2.2.2.2.2.1
      have h7 := hI.2.2.2.2.2.2.2.2.1
      have h8 := hI.2.2.2.2.2.2.2.2.2.1
      have h9 := hI.2.2.2.2.2.2.2.2.2.2.1
      have h10 := hI.2.2.2.2.2.2.2.2.2.2.2.1
      have h11 := hI.2.2.2.2.2.2.2.2.2.2.2.2.1
      have h12 := hI.2.2.2.2.2.2.2.2.2.2.2.2.2.1
      have h13 := hI.2.2.2.2.2.2.2.2.2.2.2.2.2.2.1
      have g10_11 := hI.2.2.2.2.2.2.2.2.2.2.2.2.2.2.2
      clear hI
      exact ⟨andThen HBQ hb, h0, h1, h2, h3, h4, h5, h6, h7, fun _ => rfl, h9, fun h => (h10 h).next hb, fun h => (h11 h).next hb, fun h => ⟨(h12 h).1, (h12 h).2.next hb⟩, fun h => ⟨(h13 h).1, (h13 h).2.next hb⟩, g10_11⟩
    refine Steps.val (k' := 10) (.agg #[.int .i64 q0, .int .i64 q1, .int .i64 q2]) rfl (fun _ => by kernel_rfl) (fun _ => by kernel_rfl) ?_ ?_ ?_
    · intro lv yv WQ hd hI
      have HBQ := hI.1
      have h0 := hI.2.1
      have h1 := hI.2.2.1
      have h2 := hI.2.2.2.1
      have h3 := hI.2.2.2.2.1
      have h4 := hI.2.2.2.2.2.1
      have h5 := hI.2.2.2.2.2.2.1
      have h6 := hI.2.2.2.2.2.2.2.1
      have h7 := hI.2.2.2.2.2.2.2.2.1
      have h8 := hI.2.2.2.2.2.2.2.2.2.1
      have h9 := hI.2.2.2.2.2.2.2.2.2.2.1
      have h10 := hI.2.2.2.2.2.2.2.2.2.2.2.1
      have h11 := hI.2.2.2.2.2.2.2.2.2.2.2.2.1
      have h12 := hI.2.2.2.2.2.2.2.2.2.2.2.2.2.1
      have h13 := hI.2.2.2.2.2.2.2.2.2.2.2.2.2.2.1
      have g10_11 := hI.2.2.2.2.2.2.2.2.2.2.2.2.2.2.2
      clear hI
      have d8 := dep_of hd 8 (by kernel_rfl)
      simp only [putAll, Act.put, List.setIfInBounds_toArray, List.set_cons_succ, List.set_cons_zero]
      rw [h8 d8]
      clear h0 h1 h2 h3 h4 h5 h6 h7 h8 h9 h10 h11 h12 h13 g10_11 d8 hd
      unfold Oper.quietAt
      go_simp
      exact (refCoordinates_any q0 q1 q2 WQ)
    · intro lv yv WQ W' hI hb
      have HBQ := hI.1
      have h0 := hI.2.1
      have h1 := hI.2.2.1
      have h2 := hI.2.2.2.1
      have h3 := hI.2.2.2.2.1
      have h4 := hI.2.2.2.2.2.1
      have h5 := hI.2.2.2.2.2.2.1
      have h6 := hI.2.2.2.2.2.2.2.1
      have h7 := hI.2.2.2.2.2.2.2.2.1
      have h8 := hI.2.2.2.2.2.2.2.2.2.1
      have h9 := hI.2.2.2.2.2.2.2.2.2.2.1
      have h10 := hI.2.2.2.2.2.2.2.2.2.2.2.1
      have h11 := hI.2.2.2.2.2.2.2.2.2.2.2.2.1
      have h12 := hI.2.2.2.2.2.2.2.2.2.2.2.2.2.1
      have h13 := hI.2.2.2.2.2.2.2.2.2.2.2.2.2.2.1
      have g10_11 := hI.2.2.2.2.2.2.2.2.2.2.2.2.2.2.2
      clear hI
      exact ⟨andThen HBQ hb, h0, h1, h2, h3, h4, h5, h6, h7, h8, fun _ => rfl, fun h => (h10 h).next hb, fun h => (h11 h).next hb, fun h => ⟨(h12 h).1, (h12 h).2.next hb⟩, fun h => ⟨(h13 h).1, (h13 h).2.next hb⟩, g10_11⟩
    refine Steps.own (k' := 11) rfl (fun _ => by kernel_rfl) (fun _ _ => by kernel_rfl) ?_ ?_
    · intro lv yv WQ hd hn hI
      have HBQ := hI.1
      have h0 := hI.2.1
      have h1 := hI.2.2.1
      have h2 := hI.2.2.2.1
      have h3 := hI.2.2.2.2.1
      have h4 := hI.2.2.2.2.2.1
      have h5 := hI.2.2.2.2.2.2.1
      have h6 := hI.2.2.2.2.2.2.2.1
      have h7 := hI.2.2.2.2.2.2.2.2.1
      have h8 := hI.2.2.2.2.2.2.2.2.2.1
      have h9 := hI.2.2.2.2.2.2.2.2.2.2.1
      have h10 := hI.2.2.2.2.2.2.2.2.2.2.2.1
      have h11 := hI.2.2.2.2.2.2.2.2.2.2.2.2.1
      have h12 := hI.2.2.2.2.2.2.2.2.2.2.2.2.2.1
      have h13 := hI.2.2.2.2.2.2.2.2.2.2.2.2.2.2.1
      have g10_11 := hI.2.2.2.2.2.2.2.2.2.2.2.2.2.2.2
      clear hI
      refine ⟨.pointer (some ⟨WQ.heap.size, 0, none⟩), WQ.alloc (.cells #[.int .i64 0, .int .i64 0, .int .i64 0] 64), ?_, ?_⟩
      · go_simp
      · exact ⟨alloc1 HBQ _, h0, h1, h2, h3, h4, h5, h6, h7, h8, h9, fun _ => ⟨WQ.heap.size, rfl, HBQ.size, #[.int .i64 0, .int .i64 0, .int .i64 0], rfl, heap_alloc_new _ _⟩, fun h => (h11 h).next (new_below _ _), fun h => absurd (h12 h).1 (by rw [hn]; exact Bool.false_ne_true), fun h => ⟨(h13 h).1, (h13 h).2.next (new_below _ _)⟩, fun _ h => ((h11 h).ne_new).symm⟩
    refine Steps.own (k' := 12) rfl (fun _ => by kernel_rfl) (fun _ _ => by kernel_rfl) ?_ ?_
    · intro lv yv WQ hd hn hI
      have HBQ := hI.1
      have h0 := hI.2.1
      have h1 := hI.2.2.1
      have h2 := hI.2.2.2.1
      have h3 := hI.2.2.2.2.1
      have h4 := hI.2.2.2.2.2.1
      have h5 := hI.2.2.2.2.2.2.1
      have h6 := hI.2.2.2.2.2.2.2.1
      have h7 := hI.2.2.2.2.2.2.2.2.1
      have h8 := hI.2.2.2.2.2.2.2.2.2.1
      have h9 := hI.2.2.2.2.2.2.2.2.2.2.1
      have h10 := hI.2.2.2.2.2.2.2.2.2.2.2.1
      have h11 := hI.2.2.2.2.2.2.2.2.2.2.2.2.1
      have h12 := hI.2.2.2.2.2.2.2.2.2.2.2.2.2.1
      have h13 := hI.2.2.2.2.2.2.2.2.2.2.2.2.2.2.1
      have g10_11 := hI.2.2.2.2.2.2.2.2.2.2.2.2.2.2.2
      clear hI
      refine ⟨.pointer (some ⟨WQ.heap.size, 0, none⟩), WQ.alloc (.cells #[.int .i64 0, .int .i64 0, .int .i64 0] 64), ?_, ?_⟩
      · go_simp
      · exact ⟨alloc1 HBQ _, h0, h1, h2, h3, h4, h5, h6, h7, h8, h9, fun h => (h10 h).next (new_below _ _), fun _ => ⟨WQ.heap.size, rfl, HBQ.size, #[.int .i64 0, .int .i64 0, .int .i64 0], rfl, heap_alloc_new _ _⟩, fun h => ⟨(h12 h).1, (h12 h).2.next (new_below _ _)⟩, fun h => absurd (h13 h).1 (by rw [hn]; exact Bool.false_ne_true), fun h _ => (h10 h).ne_new⟩
    refine Steps.sto (k' := 13) rfl (fun _ => by kernel_rfl) rfl ?_ ?_
    · intro lv yv WQ hd hI
      have HBQ := hI.1
      have h0 := hI.2.1
      have h1 := hI.2.2.1
      have h2 := hI.2.2.2.1
      have h3 := hI.2.2.2.2.1
      have h4 := hI.2.2.2.2.2.1
      have h5 := hI.2.2.2.2.2.2.1
      have h6 := hI.2.2.2.2.2.2.2.1
      have h7 := hI.2.2.2.2.2.2.2.2.1
      have h8 := hI.2.2.2.2.2.2.2.2.2.1
      have h9 := hI.2.2.2.2.2.2.2.2.2.2.1
      have h10 := hI.2.2.2.2.2.2.2.2.2.2.2.1
      have h11 := hI.2.2.2.2.2.2.2.2.2.2.2.2.1
      have h12 := hI.2.2.2.2.2.2.2.2.2.2.2.2.2.1
      have h13 := hI.2.2.2.2.2.2.2.2.2.2.2.2.2.2.1
      have g10_11 := hI.2.2.2.2.2.2.2.2.2.2.2.2.2.2.2
      clear hI
      have d10 := dep_of hd 10 (by kernel_rfl)
      have d4 := dep_of hd 4 (by kernel_rfl)
      obtain ⟨b, eb, hle, cs, hs, hc⟩ := h10 d10
      obtain ⟨c0, c1, c2, rfl⟩ := three_of hs
      obtain ⟨zq0, zq1, zq2⟩ := cells3 hc
      obtain ⟨zf0, zf1, zf2⟩ := free3 hc
      have dA11 := dep_of hd 11 (by kernel_rfl)
      have n11 : yv 11 ≠ .pointer (some ⟨b, 0, none⟩) := by
        rw [← eb]
        exact (g10_11 d10 dA11).symm
      refine ⟨(((WQ.setCell ⟨b, 0, none⟩ (.int .i64 p0)).setCell ⟨b, 1, none⟩ (.int .i64 p1)).setCell ⟨b, 2, none⟩ (.int .i64 p2)), ?_, ?_⟩
      · simp only [putAll, Act.put, List.setIfInBounds_toArray, List.set_cons_succ, List.set_cons_zero]
        rw [eb, h4 d4]
        clear h0 h1 h2 h3 h4 h5 h6 h7 h8 h9 h10 h11 h12 h13 g10_11 hd
        go_simp
      · exact ⟨(setC (setC (setC HBQ hle _) hle _) hle _), h0, h1, h2, h3, h4, h5, h6, h7, h8, h9, fun h => ((((h10 h).set b 0 _).set b 1 _).set b 2 _), fun h => ((((h11 h).set b 0 _).set b 1 _).set b 2 _), fun _ => ⟨d10, b, eb, (set_block (set_block (set_block hc)))⟩, fun h => ⟨(h13 h).1, ((((h13 h).2.set n11 0 _).set n11 1 _).set n11 2 _)⟩, g10_11⟩
    refine Steps.sto (k' := 14) rfl (fun _ => by kernel_rfl) rfl ?_ ?_
    · intro lv yv WQ hd hI
      have HBQ := hI.1
      have h0 := hI.2.1
      have h1 := hI.2.2.1
      have h2 := hI.2.2.2.1
      have h3 := hI.2.2.2.2.1
      have h4 := hI.2.2.2.2.2.1
      have h5 := hI.2.2.2.2.2.2.1
      have h6 := hI.2.2.2.2.2.2.2.1
      have h7 := hI.2.2.2.2.2.2.2.2.1
      have h8 := hI.2.2.2.2.2.2.2.2.2.1
      have h9 := hI.2.2.2.2.2.2.2.2.2.2.1
      have h10 := hI.2.2.2.2.2.2.2.2.2.2.2.1
      have h11 := hI.2.2.2.2.2.2.2.2.2.2.2.2.1
      have h12 := hI.2.2.2.2.2.2.2.2.2.2.2.2.2.1
      have h13 := hI.2.2.2.2.2.2.2.2.2.2.2.2.2.2.1
      have g10_11 := hI.2.2.2.2.2.2.2.2.2.2.2.2.2.2.2
      clear hI
      have d11 := dep_of hd 11 (by kernel_rfl)
      have d9 := dep_of hd 9 (by kernel_rfl)
      obtain ⟨b, eb, hle, cs, hs, hc⟩ := h11 d11
      obtain ⟨c0, c1, c2, rfl⟩ := three_of hs
      obtain ⟨zq0, zq1, zq2⟩ := cells3 hc
      obtain ⟨zf0, zf1, zf2⟩ := free3 hc
      have dA10 := dep_of hd 10 (by kernel_rfl)
      have n10 : yv 10 ≠ .pointer (some ⟨b, 0, none⟩) := by
        rw [← eb]
        exact g10_11 dA10 d11
      refine ⟨(((WQ.setCell ⟨b, 0, none⟩ (.int .i64 q0)).setCell ⟨b, 1, none⟩ (.int .i64 q1)).setCell ⟨b, 2, none⟩ (.int .i64 q2)), ?_, ?_⟩
      · simp only [putAll, Act.put, List.setIfInBounds_toArray, List.set_cons_succ, List.set_cons_zero]
        rw [eb, h9 d9]
        clear h0 h1 h2 h3 h4 h5 h6 h7 h8 h9 h10 h11 h12 h13 g10_11 hd
        go_simp
      · exact ⟨(setC (setC (setC HBQ hle _) hle _) hle _), h0, h1, h2, h3, h4, h5, h6, h7, h8, h9, fun h => ((((h10 h).set b 0 _).set b 1 _).set b 2 _), fun h => ((((h11 h).set b 0 _).set b 1 _).set b 2 _), fun h => ⟨(h12 h).1, ((((h12 h).2.set n10 0 _).set n10 1 _).set n10 2 _)⟩, fun _ => ⟨d11, b, eb, (set_block (set_block (set_block hc)))⟩, g10_11⟩
    exact Steps.nil
  intro lv yv WE hl0 hI
  have hl := Lib.hid hl0
  clear hl0
  have HBQ := hI.1
  have h0 := hI.2.1
  have h1 := hI.2.2.1
  have h2 := hI.2.2.2.1
  have h3 := hI.2.2.2.2.1
  have h4 := hI.2.2.2.2.2.1
  have h5 := hI.2.2.2.2.2.2.1
  have h6 := hI.2.2.2.2.2.2.2.1
  have h7 := hI.2.2.2.2.2.2.2.2.1
  have h8 := hI.2.2.2.2.2.2.2.2.2.1
  have h9 := hI.2.2.2.2.2.2.2.2.2.2.1
  have h10 := hI.2.2.2.2.2.2.2.2.2.2.2.1
  have h11 := hI.2.2.2.2.2.2.2.2.2.2.2.2.1
  have h12 := hI.2.2.2.2.2.2.2.2.2.2.2.2.2.1
  have h13 := hI.2.2.2.2.2.2.2.2.2.2.2.2.2.2.1
  have g10_11 := hI.2.2.2.2.2.2.2.2.2.2.2.2.2.2.2
  clear hI
  have HBE := Lib.hid HBQ
  have e0 := h0 (hl.out 0 (by decide))
  have e1 := h1 (hl.out 1 (by decide))
  have e2 := h2 (hl.out 2 (by decide))
  have e3 := h3 (hl.out 3 (by decide))
  have e4 := h4 (hl.out 4 (by decide))
  have e5 := h5 (hl.out 5 (by decide))
  have e6 := h6 (hl.out 6 (by decide))
  have e7 := h7 (hl.out 7 (by decide))
  have e8 := h8 (hl.out 8 (by decide))
  have e9 := h9 (hl.out 9 (by decide))
  obtain ⟨-, b10, e10, Hr10⟩ := h12 (hl.out 12 (by decide))
  have HG10 := Lib.hid (show w3.heap.size ≤ b10 by obtain ⟨b, e, hle, -⟩ := h10 (hl.out 10 (by decide)); rw [e10] at e; injection e with e; injection e with e; injection e with e; omega)
  have Hc10 := Lib.hid Hr10
  clear Hr10
  obtain ⟨-, b11, e11, Hr11⟩ := h13 (hl.out 13 (by decide))
  have HG11 := Lib.hid (show w3.heap.size ≤ b11 by obtain ⟨b, e, hle, -⟩ := h11 (hl.out 11 (by decide)); rw [e11] at e; injection e with e; injection e with e; injection e with e; omega)
  have Hc11 := Lib.hid Hr11
  clear Hr11
  have HN10_11 := Lib.hid (show b10 ≠ b11 from fun h => g10_11 (hl.out 10 (by decide)) (hl.out 11 (by decide)) (by rw [e10, e11, h]))
  clear hl HBQ h0 h1 h2 h3 h4 h5 h6 h7 h8 h9 h10 h11 h12 h13 g10_11
  simp only [putAll, Act.put, List.setIfInBounds_toArray, List.set_cons_succ, List.set_cons_zero]
  rw [e0, e1, e2, e3, e4, e5, e6, e7, e8, e9, e10, e11]
  clear e0 e1 e2 e3 e4 e5 e6 e7 e8 e9 e10 e11
  clear yv lv
  obtain ⟨w4, rfl⟩ : ∃ w4 : World, w4 = WE := ⟨_, rfl⟩
  have HB4 := Lib.hid (trans' HB3.out HBE.out)
  have HX4 := Lib.hid (keepb HBE.out HX3.out)
  have HR4 := Lib.hid (keepb HBE.out HR3.out)
  have HP4 := Hc10
  have HQ4 := Hc11
  clear HB3 HV3 HU3 HX3 HR3 HBE CN1 CN2 HG10 HG11 HN10_11 Hc10 Hc11
  generalize b10 = cp at *
  generalize b11 = cq at *
  go_upto_region 2 with fail
  refine region_vals (fun lv yv W => Below w4.heap.size w4 W ∧ (lv 0 = true → yv 0 = .agg #[.int .i64 q0, .int .i64 q1, .int .i64 q2]) ∧ (lv 1 = true → yv 1 = .agg #[.int .i64 p0, .int .i64 p1, .int .i64 p2]) ∧ (lv 2 = true → yv 2 = .agg #[.int .i64 dx, .int .i64 dy, .int .i64 dz]) ∧ (lv 3 = true → yv 3 = .pointer (some ⟨w.heap.size + 1 + 1, 2, none⟩)) ∧ (lv 4 = true → yv 4 = .agg #[.int .i64 x, .int .i64 y, .int .i64 z]) ∧ (lv 5 = true → yv 5 = .agg #[.int .i64 x, .int .i64 y, .int .i64 z]) ∧ (lv 6 = true → yv 6 = .agg #[.int .i64 p0, .int .i64 p1, .int .i64 p2]) ∧ (lv 7 = true → yv 7 = .agg #[.int .i64 sx, .int .i64 sy, .int .i64 sz]) ∧ (lv 8 = true → OwnB 64 3 w4.heap.size (yv 8) W) ∧ (lv 9 = true → OwnB 64 3 w4.heap.size (yv 9) W) ∧ (lv 10 = true → lv 8 = true ∧ HasC 64 #[.int .i64 dx, .int .i64 dy, .int .i64 dz] (yv 8) W) ∧ (lv 11 = true → lv 9 = true ∧ HasC 64 #[.int .i64 sx, .int .i64 sy, .int .i64 sz] (yv 9) W) ∧ (lv 8 = true → lv 9 = true → yv 8 ≠ yv 9)) (fun _ => undef) (by kernel_rfl) (by kernel_rfl) (by kernel_rfl) ⟨(Below.refl _ w4).drew, fun h => absurd h Bool.false_ne_true, fun h => absurd h Bool.false_ne_true, fun h => absurd h Bool.false_ne_true, fun h => absurd h Bool.false_ne_true, fun h => absurd h Bool.false_ne_true, fun h => absurd h Bool.false_ne_true, fun h => absurd h Bool.false_ne_true, fun h => absurd h Bool.false_ne_true, fun h => absurd h Bool.false_ne_true, fun h => absurd h Bool.false_ne_true, fun h => absurd h Bool.false_ne_true, fun h => absurd h Bool.false_ne_true, fun h => absurd h Bool.false_ne_true⟩ ?_ ?_
  · -- the operations
    refine Steps.val (k' := 1) (.agg #[.int .i64 q0, .int .i64 q1, .int .i64 q2]) rfl (fun _ => by kernel_rfl) (fun _ => by kernel_rfl) ?_ ?_ ?_
    · intro lv yv WQ hd hI
      have HBQ := hI.1
      have h0 := hI.2.1
      have h1 := hI.2.2.1
      have h2 := hI.2.2.2.1
      have h3 := hI.2.2.2.2.1
      have h4 := hI.2.2.2.2.2.1
      have h5 := hI.2.2.2.2.2.2.1
      have h6 := hI.2.2.2.2.2.2.2.1
      have h7 := hI.2.2.2.2.2.2.2.2.1
      have h8 := hI.2.2.2.2.2.2.2.2.2.1
      have h9 := hI.2.2.2.2.2.2.2.2.2.2.1
      have h10 := hI.2.2.2.2.2.2.2.2.2.2.2.1
      have h11 := hI.2.2.2.2.2.2.2.2.2.2.2.2.1
      have g8_9 := hI.2.2.2.2.2.2.2.2.2.2.2.2.2
      clear hI
      simp only [putAll, Act.put, List.setIfInBounds_toArray, List.set_cons_succ, List.set_cons_zero]
      clear h0 h1 h2 h3 h4 h5 h6 h7 h8 h9 h10 h11 g8_9 hd
      obtain ⟨zq0, zq1, zq2⟩ := cells3 (keepb HBQ HQ4.out)
      unfold Oper.quietAt
      go_simp
    · intro lv yv WQ W' hI hb
      have HBQ := hI.1
      have h0 := hI.2.1
      have h1 := hI.2.2.1
      have h2 := hI.2.2.2.1
      have h3 := hI.2.2.2.2.1
      have h4 := hI.2.2.2.2.2.1
      have h5 := hI.2.2.2.2.2.2.1
      have h6 := hI.2.2.2.2.2.2.2.1
      have h7 := hI.2.2.2.2.2.2.2.2.1
      have h8 := hI.2.2.2.2.2.2.2.2.2.1
      have h9 := hI.2.2.2.2.2.2.2.2.2.2.1
      have h10 := hI.2.2.2.2.2.2.2.2.2.2.2.1
      have h11 := hI.2.2.2.2.2.2.2.2.2.2.2.2.1
      have g8_9 := hI.2.2.2.2.2.2.2.2.2.2.2.2.2
      clear hI
      exact ⟨andThen HBQ hb, fun _ => rfl, h1, h2, h3, h4, h5, h6, h7, fun h => (h8 h).next hb, fun h => (h9 h).next hb, fun h => ⟨(h10 h).1, (h10 h).2.next hb⟩, fun h => ⟨(h11 h).1, (h11 h).2.next hb⟩, g8_9⟩
    refine Steps.val (k' := 2) (.agg #[.int .i64 p0, .int .i64 p1, .int .i64 p2]) rfl (fun _ => by kernel_rfl) (fun _ => by kernel_rfl) ?_ ?_ ?_
    · intro lv yv WQ hd hI
      have HBQ := hI.1
      have h0 := hI.2.1
      have h1 := hI.2.2.1
      have h2 := hI.2.2.2.1
      have h3 := hI.2.2.2.2.1
      have h4 := hI.2.2.2.2.2.1
      have h5 := hI.2.2.2.2.2.2.1
      have h6 := hI.2.2.2.2.2.2.2.1
      have h7 := hI.2.2.2.2.2.2.2.2.1
      have h8 := hI.2.2.2.2.2.2.2.2.2.1
      have h9 := hI.2.2.2.2.2.2.2.2.2.2.1
      have h10 := hI.2.2.2.2.2.2.2.2.2.2.2.1
      have h11 := hI.2.2.2.2.2.2.2.2.2.2.2.2.1
      have g8_9 := hI.2.2.2.2.2.2.2.2.2.2.2.2.2
      clear hI
      simp only [putAll, Act.put, List.setIfInBounds_toArray, List.set_cons_succ, List.set_cons_zero]
      clear h0 h1 h2 h3 h4 h5 h6 h7 h8 h9 h10 h11 g8_9 hd
      obtain ⟨zq0, zq1, zq2⟩ := cells3 (keepb HBQ HP4.out)
      unfold Oper.quietAt
      go_simp
    · intro lv yv WQ W' hI hb
      have HBQ := hI.1
      have h0 := hI.2.1
      have h1 := hI.2.2.1
      have h2 := hI.2.2.2.1
      have h3 := hI.2.2.2.2.1
      have h4 := hI.2.2.2.2.2.1
      have h5 := hI.2.2.2.2.2.2.1
      have h6 := hI.2.2.2.2.2.2.2.1
      have h7 := hI.2.2.2.2.2.2.2.2.1
      have h8 := hI.2.2.2.2.2.2.2.2.2.1
      have h9 := hI.2.2.2.2.2.2.2.2.2.2.1
      have h10 := hI.2.2.2.2.2.2.2.2.2.2.2.1
      have h11 := hI.2.2.2.2.2.2.2.2.2.2.2.2.1
      have g8_9 := hI.2.2.2.2.2.2.2.2.2.2.2.2.2
      clear hI
      exact ⟨andThen HBQ hb, h0, fun _ => rfl, h2, h3, h4, h5, h6, h7, fun h => (h8 h).next hb, fun h => (h9 h).next hb, fun h => ⟨(h10 h).1, (h10 h).2.next hb⟩, fun h => ⟨(h11 h).1, (h11 h).2.next hb⟩, g8_9⟩
    refine Steps.val (k' := 3) (.agg #[.int .i64 dx, .int .i64 dy, .int .i64 dz]) rfl (fun _ => by kernel_rfl) (fun _ => by kernel_rfl) ?_ ?_ ?_
    · intro lv yv WQ hd hI
      have HBQ := hI.1
      have h0 := hI.2.1
      have h1 := hI.2.2.1
      have h2 := hI.2.2.2.1
      have h3 := hI.2.2.2.2.1
      have h4 := hI.2.2.2.2.2.1
      have h5 := hI.2.2.2.2.2.2.1
      have h6 := hI.2.2.2.2.2.2.2.1
      have h7 := hI.2.2.2.2.2.2.2.2.1
      have h8 := hI.2.2.2.2.2.2.2.2.2.1
      have h9 := hI.2.2.2.2.2.2.2.2.2.2.1
      have h10 := hI.2.2.2.2.2.2.2.2.2.2.2.1
      have h11 := hI.2.2.2.2.2.2.2.2.2.2.2.2.1
      have g8_9 := hI.2.2.2.2.2.2.2.2.2.2.2.2.2
      clear hI
      have d0 := dep_of hd 0 (by kernel_rfl)
      have d1 := dep_of hd 1 (by kernel_rfl)
      simp only [putAll, Act.put, List.setIfInBounds_toArray, List.set_cons_succ, List.set_cons_zero]
      rw [h0 d0, h1 d1]
      clear h0 h1 h2 h3 h4 h5 h6 h7 h8 h9 h10 h11 g8_9 d0 d1 hd
      unfold Oper.quietAt
      go_simp
      exact (CL1.out WQ)
    · intro lv yv WQ W' hI hb
      have HBQ := hI.1
      have h0 := hI.2.1
      have h1 := hI.2.2.1
      have h2 := hI.2.2.2.1
      have h3 := hI.2.2.2.2.1
      have h4 := hI.2.2.2.2.2.1
      have h5 := hI.2.2.2.2.2.2.1
      have h6 := hI.2.2.2.2.2.2.2.1
      have h7 := hI.2.2.2.2.2.2.2.2.1
      have h8 := hI.2.2.2.2.2.2.2.2.2.1
      have h9 := hI.2.2.2.2.2.2.2.2.2.2.1
      have h10 := hI.2.2.2.2.2.2.2.2.2.2.2.1
      have h11 := hI.2.2.2.2.2.2.2.2.2.2.2.2.1
      have g8_9 := hI.2.2.2.2.2.2.2.2.2.2.2.2.2
      clear hI
      exact ⟨andThen HBQ hb, h0, h1, fun _ => rfl, h3, h4, h5, h6, h7, fun h => (h8 h).next hb, fun h => (h9 h).next hb, fun h => ⟨(h10 h).1, (h10 h).2.next hb⟩, fun h => ⟨(h11 h).1, (h11 h).2.next hb⟩, g8_9⟩
    refine Steps.val (k' := 4) (.pointer (some ⟨w.heap.size + 1 + 1, 2, none⟩)) rfl (fun _ => by kernel_rfl) (fun _ => by kernel_rfl) ?_ ?_ ?_
    · intro lv yv WQ hd hI
      have HBQ := hI.1
      have h0 := hI.2.1
      have h1 := hI.2.2.1
      have h2 := hI.2.2.2.1
      have h3 := hI.2.2.2.2.1
      have h4 := hI.2.2.2.2.2.1
      have h5 := hI.2.2.2.2.2.2.1
      have h6 := hI.2.2.2.2.2.2.2.1
      have h7 := hI.2.2.2.2.2.2.2.2.1
      have h8 := hI.2.2.2.2.2.2.2.2.2.1
      have h9 := hI.2.2.2.2.2.2.2.2.2.2.1
      have h10 := hI.2.2.2.2.2.2.2.2.2.2.2.1
      have h11 := hI.2.2.2.2.2.2.2.2.2.2.2.2.1
      have g8_9 := hI.2.2.2.2.2.2.2.2.2.2.2.2.2
      clear hI
      simp only [putAll, Act.put, List.setIfInBounds_toArray, List.set_cons_succ, List.set_cons_zero]
      clear h0 h1 h2 h3 h4 h5 h6 h7 h8 h9 h10 h11 g8_9 hd
      unfold Oper.quietAt
      go_simp
    · intro lv yv WQ W' hI hb
      have HBQ := hI.1
      have h0 := hI.2.1
      have h1 := hI.2.2.1
      have h2 := hI.2.2.2.1
      have h3 := hI.2.2.2.2.1
      have h4 := hI.2.2.2.2.2.1
      have h5 := hI.2.2.2.2.2.2.1
      have h6 := hI.2.2.2.2.2.2.2.1
      have h7 := hI.2.2.2.2.2.2.2.2.1
      have h8 := hI.2.2.2.2.2.2.2.2.2.1
      have h9 := hI.2.2.2.2.2.2.2.2.2.2.1
      have h10 := hI.2.2.2.2.2.2.2.2.2.2.2.1
      have h11 := hI.2.2.2.2.2.2.2.2.2.2.2.2.1
      have g8_9 := hI.2.2.2.2.2.2.2.2.2.2.2.2.2
      clear hI
      exact ⟨andThen HBQ hb, h0, h1, h2, fun _ => rfl, h4, h5, h6, h7, fun h => (h8 h).next hb, fun h => (h9 h).next hb, fun h => ⟨(h10 h).1, (h10 h).2.next hb⟩, fun h => ⟨(h11 h).1, (h11 h).2.next hb⟩, g8_9⟩
    refine Steps.val (k' := 5) (.agg #[.int .i64 x, .int .i64 y, .int .i64 z]) rfl (fun _ => by kernel_rfl) (fun _ => by kernel_rfl) ?_ ?_ ?_
    · intro lv yv WQ hd hI
      have HBQ := hI.1
      have h0 := hI.2.1
      have h1 := hI.2.2.1
      have h2 := hI.2.2.2.1
      have h3 := hI.2.2.2.2.1
      have h4 := hI.2.2.2.2.2.1
      have h5 := hI.2.2.2.2.2.2.1
      have h6 := hI.2.2.2.2.2.2.2.1
      have h7 := hI.2.2.2.2.2.2.2.2.1
      have h8 := hI.2.2.2.2.2.2.2.2.2.1
      have h9 := hI.2.2.2.2.2.2.2.2.2.2.1
      have h10 := hI.2.2.2.2.2.2.2.2.2.2.2.1
      have h11 := hI.2.2.2.2.2.2.2.2.2.2.2.2.1
      have g8_9 := hI.2.2.2.2.2.2.2.2.2.2.2.2.2
      clear hI
      have d3 := dep_of hd 3 (by kernel_rfl)
      simp only [putAll, Act.put, List.setIfInBounds_toArray, List.set_cons_succ, List.set_cons_zero]
      rw [h3 d3]
      clear h0 h1 h2 h3 h4 h5 h6 h7 h8 h9 h10 h11 g8_9 d3 hd
      obtain ⟨zq0, zq1, zq2, zq3, zq4⟩ := cells5 (keepb HBQ HX4.out)
      unfold Oper.quietAt
      go_simp
    · intro lv yv WQ W' hI hb
      have HBQ := hI.1
      have h0 := hI.2.1
      have h1 := hI.2.2.1
      have h2 := hI.2.2.2.1
      have h3 := hI.2.2.2.2.1
      have h4 := hI.2.2.2.2.2.1
      have h5 := hI.2.2.2.2.2.2.1
      have h6 := hI.2.2.2.2.2.2.2.1
      have h7 := hI.2.2.2.2.2.2.2.2.1
      have h8 := hI.2.2.2.2.2.2.2.2.2.1
      have h9 := hI.2.2.2.2.2.2.2.2.2.2.1
      have h10 := hI.2.2.2.2.2.2.2.2.2.2.2.1
      have h11 := hI.2.2.2.2.2.2.2.2.2.2.2.2.1
      have g8_9 := hI.2.2.2.2.2.2.2.2.2.2.2.2.2
      clear hI
      exact ⟨andThen HBQ hb, h0, h1, h2, h3, fun _ => rfl, h5, h6, h7, fun h => (h8 h).next hb, fun h => (h9 h).next hb, fun h => ⟨(h10 h).1, (h10 h).2.next hb⟩, fun h => ⟨(h11 h).1, (h11 h).2.next hb⟩, g8_9⟩
    refine Steps.val (k' := 6) (.agg #[.int .i64 x, .int .i64 y, .int .i64 z]) rfl (fun _ => by kernel_rfl) (fun _ => by kernel_rfl) ?_ ?_ ?_
    · intro lv yv WQ hd hI
      have HBQ := hI.1
      have h0 := hI.2.1
      have h1 := hI.2.2.1
      have h2 := hI.2.2.2.1
      have h3 := hI.2.2.2.2.1
      have h4 := hI.2.2.2.2.2.1
      have h5 := hI.2.2.2.2.2.2.1
      have h6 := hI.2.2.2.2.2.2.2.1
      have h7 := hI.2.2.2.2.2.2.2.2.1
      have h8 := hI.2.2.2.2.2.2.2.2.2.1
      have h9 := hI.2.2.2.2.2.2.2.2.2.2.1
      have h10 := hI.2.2.2.2.2.2.2.2.2.2.2.1
      have h11 := hI.2.2.2.2.2.2.2.2.2.2.2.2.1
      have g8_9 := hI.2.2.2.2.2.2.2.2.2.2.2.2.2
      clear hI
      have d4 := dep_of hd 4 (by kernel_rfl)
      simp only [putAll, Act.put, List.setIfInBounds_toArray, List.set_cons_succ, List.set_cons_zero]
      rw [h4 d4]
      clear h0 h1 h2 h3 h4 h5 h6 h7 h8 h9 h10 h11 g8_9 d4 hd
      unfold Oper.quietAt
      go_simp
      exact (CC.out WQ)
    · intro lv yv WQ W' hI hb
      have HBQ := hI.1
      have h0 := hI.2.1
      have h1 := hI.2.2.1
      have h2 := hI.2.2.2.1
      have h3 := hI.2.2.2.2.1
      have h4 := hI.2.2.2.2.2.1
      have h5 := hI.2.2.2.2.2.2.1
      have h6 := hI.2.2.2.2.2.2.2.1
      have h7 := hI.2.2.2.2.2.2.2.2.1
      have h8 := hI.2.2.2.2.2.2.2.2.2.1
      have h9 := hI.2.2.2.2.2.2.2.2.2.2.1
      have h10 := hI.2.2.2.2.2.2.2.2.2.2.2.1
      have h11 := hI.2.2.2.2.2.2.2.2.2.2.2.2.1
      have g8_9 := hI.2.2.2.2.2.2.2.2.2.2.2.2.2
      clear hI
      exact ⟨andThen HBQ hb, h0, h1, h2, h3, h4, fun _ => rfl, h6, h7, fun h => (h8 h).next hb, fun h => (h9 h).next hb, fun h => ⟨(h10 h).1, (h10 h).2.next hb⟩, fun h => ⟨(h11 h).1, (h11 h).2.next hb⟩, g8_9⟩
    refine Steps.val (k' := 7) (.agg #[.int .i64 p0, .int .i64 p1, .int .i64 p2]) rfl (fun _ => by kernel_rfl) (fun _ => by kernel_rfl) ?_ ?_ ?_
    · intro lv yv WQ hd hI
      have HBQ := hI.1
      have h0 := hI.2.1
      have h1 := hI.2.2.1
      have h2 := hI.2.2.2.1
      have h3 := hI.2.2.2.2.1
      have h4 := hI.2.2.2.2.2.1
      have h5 := hI.2.2.2.2.2.2.1
      have h6 := hI.2.2.2.2.2.2.2.1
      have h7 := hI.2.2.2.2.2.2.2.2.1
      have h8 := hI.2.2.2.2.2.2.2.2.2.1
      have h9 := hI.2.2.2.2.2.2.2.2.2.2.1
      have h10 := hI.2.2.2.2.2.2.2.2.2.2.2.1
      have h11 := hI.2.2.2.2.2.2.2.2.2.2.2.2.1
      have g8_9 := hI.2.2.2.2.2.2.2.2.2.2.2.2.2
      clear hI
      simp only [putAll, Act.put, List.setIfInBounds_toArray, List.set_cons_succ, List.set_cons_zero]
      clear h0 h1 h2 h3 h4 h5 h6 h7 h8 h9 h10 h11 g8_9 hd
      obtain ⟨zq0, zq1, zq2⟩ := cells3 (keepb HBQ HP4.out)
      unfold Oper.quietAt
      go_simp
    · intro lv yv WQ W' hI hb
      have HBQ := hI.1
      have h0 := hI.2.1
      have h1 := hI.2.2.1
      have h2 := hI.2.2.2.1
      have h3 := hI.2.2.2.2.1
      have h4 := hI.2.2.2.2.2.1
      have h5 := hI.2.2.2.2.2.2.1
      have h6 := hI.2.2.2.2.2.2.2.1
      have h7 := hI.2.2.2.2.2.2.2.2.1
      have h8 := hI.2.2.2.2.2.2.2.2.2.1
      have h9 := hI.2.2.2.2.2.2.2.2.2.2.1
      have h10 := hI.2.2.2.2.2.2.2.2.2.2.2.1
      have h11 := hI.2.2.2.2.2.2.2.2.2.2.2.2.1
      have g8_9 := hI.2.2.2.2.2.2.2.2.2.2.2.2.2
      clear hI
      exact ⟨andThen HBQ hb, h0, h1, h2, h3, h4, h5, fun _ => rfl, h7, fun h => (h8 h).next hb, fun h => (h9 h).next hb, fun h => ⟨(h10 h).1, (h10 h).2.next hb⟩, fun h => ⟨(h11 h).1, (h11 h).2.next hb⟩, g8_9⟩
    refine Steps.val (k' := 8) (.agg #[.int .i64 sx, .int .i64 sy, .int .i64 sz]) rfl (fun _ => by kernel_rfl) (fun _ => by kernel_rfl) ?_ ?_ ?_
    · intro lv yv WQ hd hI
      have HBQ := hI.1
      have h0 := hI.2.1
      have h1 := hI.2.2.1
      have h2 := hI.2.2.2.1
      have h3 := hI.2.2.2.2.1
      have h4 := hI.2.2.2.2.2.1
      have h5 := hI.2.2.2.2.2.2.1
      have h6 := hI.2.2.2.2.2.2.2.1
      have h7 := hI.2.2.2.2.2.2.2.2.1
      have h8 := hI.2.2.2.2.2.2.2.2.2.1
      have h9 := hI.2.2.2.2.2.2.2.2.2.2.1
      have h10 := hI.2.2.2.2.2.2.2.2.2.2.2.1
      have h11 := hI.2.2.2.2.2.2.2.2.2.2.2.2.1
      have g8_9 := hI.2.2.2.2.2.2.2.2.2.2.2.2.2
      clear hI
      have d5 := dep_of hd 5 (by kernel_rfl)
      have d6 := dep_of hd 6 (by kernel_rfl)
      simp only [putAll, Act.put, List.setIfInBounds_toArray, List.set_cons_succ, List.set_cons_zero]
      rw [h5 d5, h6 d6]
      clear h0 h1 h2 h3 h4 h5 h6 h7 h8 h9 h10 h11 g8_9 d5 d6 hd
      unfold Oper.quietAt
      go_simp
      exact (CL2.out WQ)
    · intro lv yv WQ W' hI hb
      have HBQ := hI.1
      have h0 := hI.2.1
      have h1 := hI.2.2.1
      have h2 := hI.2.2.2.1
      have h3 := hI.2.2.2.2.1
      have h4 := hI.2.2.2.2.2.1
      have h5 := hI.2.2.2.2.2.2.1
      have h6 := hI.2.2.2.2.2.2.2.1
      have h7 := hI.2.2.2.2.2.2.2.2.1
      have h8 := hI.2.2.2.2.2.2.2.2.2.1
      have h9 := hI.2.2.2.2.2.2.2.2.2.2.1
      have h10 := hI.2.2.2.2.2.2.2.2.2.2.2.1
      have h11 := hI.2.2.2.2.2.2.2.2.2.2.2.2.1
      have g8_9 := hI.2.2.2.2.2.2.2.2.2.2.2.2.2
      clear hI
      exact ⟨andThen HBQ hb, h0, h1, h2, h3, h4, h5, h6, fun _ => rfl, fun h => (h8 h).next hb, fun h => (h9 h).next hb, fun h => ⟨(h10 h).1, (h10 h).2.next hb⟩, fun h => ⟨(h11 h).1, (h11 h).2.next hb⟩, g8_9⟩
    refine Steps.own (k' := 9) rfl (fun _ => by kernel_rfl) (fun _ _ => by kernel_rfl) ?_ ?_
    · intro lv yv WQ hd hn hI
      have HBQ := hI.1
      have h0 := hI.2.1
      have h1 := hI.2.2.1
      have h2 := hI.2.2.2.1
      have h3 := hI.2.2.2.2.1
      have h4 := hI.2.2.2.2.2.1
      have h5 := hI.2.2.2.2.2.2.1
      have h6 := hI.2.2.2.2.2.2.2.1
      have h7 := hI.2.2.2.2.2.2.2.2.1
      have h8 := hI.2.2.2.2.2.2.2.2.2.1
      have h9 := hI.2.2.2.2.2.2.2.2.2.2.1
      have h10 := hI.2.2.2.2.2.2.2.2.2.2.2.1
      have h11 := hI.2.2.2.2.2.2.2.2.2.2.2.2.1
      have g8_9 := hI.2.2.2.2.2.2.2.2.2.2.2.2.2
      clear hI
      refine ⟨.pointer (some ⟨WQ.heap.size, 0, none⟩), WQ.alloc (.cells #[.int .i64 0, .int .i64 0, .int .i64 0] 64), ?_, ?_⟩
      · go_simp
      · exact ⟨alloc1 HBQ _, h0, h1, h2, h3, h4, h5, h6, h7, fun _ => ⟨WQ.heap.size, rfl, HBQ.size, #[.int .i64 0, .int .i64 0, .int .i64 0], rfl, heap_alloc_new _ _⟩, fun h => (h9 h).next (new_below _ _), fun h => absurd (h10 h).1 (by rw [hn]; exact Bool.false_ne_true), fun h => ⟨(h11 h).1, (h11 h).2.next (new_below _ _)⟩, fun _ h => ((h9 h).ne_new).symm⟩
    refine Steps.own (k' := 10) rfl (fun _ => by kernel_rfl) (fun _ _ => by kernel_rfl) ?_ ?_
    · intro lv yv WQ hd hn hI
      have HBQ := hI.1
      have h0 := hI.2.1
      have h1 := hI.2.2.1
      have h2 := hI.2.2.2.1
      have h3 := hI.2.2.2.2.1
      have h4 := hI.2.2.2.2.2.1
      have h5 := hI.2.2.2.2.2.2.1
      have h6 := hI.2.2.2.2.2.2.2.1
      have h7 := hI.2.2.2.2.2.2.2.2.1
      have h8 := hI.2.2.2.2.2.2.2.2.2.1
      have h9 := hI.2.2.2.2.2.2.2.2.2.2.1
      have h10 := hI.2.2.2.2.2.2.2.2.2.2.2.1
      have h11 := hI.2.2.2.2.2.2.2.2.2.2.2.2.1
      have g8_9 := hI.2.2.2.2.2.2.2.2.2.2.2.2.2
      clear hI
      refine ⟨.pointer (some ⟨WQ.heap.size, 0, none⟩), WQ.alloc (.cells #[.int .i64 0, .int .i64 0, .int .i64 0] 64), ?_, ?_⟩
      · go_simp
      · exact ⟨alloc1 HBQ _, h0, h1, h2, h3, h4, h5, h6, h7, fun h => (h8 h).next (new_below _ _), fun _ => ⟨WQ.heap.size, rfl, HBQ.size, #[.int .i64 0, .int .i64 0, .int .i64 0], rfl, heap_alloc_new _ _⟩, fun h => ⟨(h10 h).1, (h10 h).2.next (new_below _ _)⟩, fun h => absurd (h11 h).1 (by rw [hn]; exact Bool.false_ne_true), fun h _ => (h8 h).ne_new⟩
    refine Steps.sto (k' := 11) rfl (fun _ => by kernel_rfl) rfl ?_ ?_
    · intro lv yv WQ hd hI
      have HBQ := hI.1
      have h0 := hI.2.1
      have h1 := hI.2.2.1
      have h2 := hI.2.2.2.1
      have h3 := hI.2.2.2.2.1
      have h4 := hI.2.2.2.2.2.1
      have h5 := hI.2.2.2.2.2.2.1
      have h6 := hI.2.2.2.2.2.2.2.1
      have h7 := hI.2.2.2.2.2.2.2.2.1
      have h8 := hI.2.2.2.2.2.2.2.2.2.1
      have h9 := hI.2.2.2.2.2.2.2.2.2.2.1
      have h10 := hI.2.2.2.2.2.2.2.2.2.2.2.1
      have h11 := hI.2.2.2.2.2.2.2.2.2.2.2.2.1
      have g8_9 := hI.2.2.2.2.2.2.2.2.2.2.2.2.2
      clear hI
      have d8 := dep_of hd 8 (by kernel_rfl)
      have d2 := dep_of hd 2 (by kernel_rfl)
      obtain ⟨b, eb, hle, cs, hs, hc⟩ := h8 d8
      obtain ⟨c0, c1, c2, rfl⟩ := three_of hs
      obtain ⟨zq0, zq1, zq2⟩ := cells3 hc
      obtain ⟨zf0, zf1, zf2⟩ := free3 hc
      have dA9 := dep_of hd 9 (by kernel_rfl)
      have n9 : yv 9 ≠ .pointer (some ⟨b, 0, none⟩) := by
        rw [← eb]
        exact (g8_9 d8 dA9).symm
      refine ⟨(((WQ.setCell ⟨b, 0, none⟩ (.int .i64 dx)).setCell ⟨b, 1, none⟩ (.int .i64 dy)).setCell ⟨b, 2, none⟩ (.int .i64 dz)), ?_, ?_⟩
      · simp only [putAll, Act.put, List.setIfInBounds_toArray, List.set_cons_succ, List.set_cons_zero]
        rw [eb, h2 d2]
        clear h0 h1 h2 h3 h4 h5 h6 h7 h8 h9 h10 h11 g8_9 hd
        go_simp
      · exact ⟨(setC (setC (setC HBQ hle _) hle _) hle _), h0, h1, h2, h3, h4, h5, h6, h7, fun h => ((((h8 h).set b 0 _).set b 1 _).set b 2 _), fun h => ((((h9 h).set b 0 _).set b 1 _).set b 2 _), fun _ => ⟨d8, b, eb, (set_block (set_block (set_block hc)))⟩, fun h => ⟨(h11 h).1, ((((h11 h).2.set n9 0 _).set n9 1 _).set n9 2 _)⟩, g8_9⟩
    refine Steps.sto (k' := 12) rfl (fun _ => by kernel_rfl) rfl ?_ ?_
    · intro lv yv WQ hd hI
      have HBQ := hI.1
      have h0 := hI.2.1
      have h1 := hI.2.2.1
      have h2 := hI.2.2.2.1
      have h3 := hI.2.2.2.2.1
      have h4 := hI.2.2.2.2.2.1
      have h5 := hI.2.2.2.2.2.2.1
      have h6 := hI.2.2.2.2.2.2.2.1
      have h7 := hI.2.2.2.2.2.2.2.2.1
      have h8 := hI.2.2.2.2.2.2.2.2.2.1
      have h9 := hI.2.2.2.2.2.2.2.2.2.2.1
      have h10 := hI.2.2.2.2.2.2.2.2.2.2.2.1
      have h11 := hI.2.2.2.2.2.2.2.2.2.2.2.2.1
      have g8_9 := hI.2.2.2.2.2.2.2.2.2.2.2.2.2
      clear hI
      have d9 := dep_of hd 9 (by kernel_rfl)
      have d7 := dep_of hd 7 (by kernel_rfl)
      obtain ⟨b, eb, hle, cs, hs, hc⟩ := h9 d9
      obtain ⟨c0, c1, c2, rfl⟩ := three_of hs
      obtain ⟨zq0, zq1, zq2⟩ := cells3 hc
      obtain ⟨zf0, zf1, zf2⟩ := free3 hc
      have dA8 := dep_of hd 8 (by kernel_rfl)
      have n8 : yv 8 ≠ .pointer (some ⟨b, 0, none⟩) := by
        rw [← eb]
        exact g8_9 dA8 d9
      refine ⟨(((WQ.setCell ⟨b, 0, none⟩ (.int .i64 sx)).setCell ⟨b, 1, none⟩ (.int .i64 sy)).setCell ⟨b, 2, none⟩ (.int .i64 sz)), ?_, ?_⟩
      · simp only [putAll, Act.put, List.setIfInBounds_toArray, List.set_cons_succ, List.set_cons_zero]
        rw [eb, h7 d7]
        clear h0 h1 h2 h3 h4 h5 h6 h7 h8 h9 h10 h11 g8_9 hd
        go_simp
      · exact ⟨(setC (setC (setC HBQ hle _) hle _) hle _), h0, h1, h2, h3, h4, h5, h6, h7, fun h => ((((h8 h).set b 0 _).set b 1 _).set b 2 _), fun h => ((((h9 h).set b 0 _).set b 1 _).set b 2 _), fun h => ⟨(h10 h).1, ((((h10 h).2.set n8 0 _).set n8 1 _).set n8 2 _)⟩, fun _ => ⟨d9, b, eb, (set_block (set_block (set_block hc)))⟩, g8_9⟩
    exact Steps.nil
  intro lv yv WE hl0 hI
  have hl := Lib.hid hl0
  clear hl0
  have HBQ := hI.1
  have h0 := hI.2.1
  have h1 := hI.2.2.1
  have h2 := hI.2.2.2.1
  have h3 := hI.2.2.2.2.1
  have h4 := hI.2.2.2.2.2.1
  have h5 := hI.2.2.2.2.2.2.1
  have h6 := hI.2.2.2.2.2.2.2.1
  have h7 := hI.2.2.2.2.2.2.2.2.1
  have h8 := hI.2.2.2.2.2.2.2.2.2.1
  have h9 := hI.2.2.2.2.2.2.2.2.2.2.1
  have h10 := hI.2.2.2.2.2.2.2.2.2.2.2.1
  have h11 := hI.2.2.2.2.2.2.2.2.2.2.2.2.1
  have g8_9 := hI.2.2.2.2.2.2.2.2.2.2.2.2.2
  clear hI
  have HBE := Lib.hid HBQ
  have e0 := h0 (hl.out 0 (by decide))
  have e1 := h1 (hl.out 1 (by decide))
  have e2 := h2 (hl.out 2 (by decide))
  have e3 := h3 (hl.out 3 (by decide))
  have e4 := h4 (hl.out 4 (by decide))
  have e5 := h5 (hl.out 5 (by decide))
  have e6 := h6 (hl.out 6 (by decide))
  have e7 := h7 (hl.out 7 (by decide))
  obtain ⟨-, b8, e8, Hr8⟩ := h10 (hl.out 10 (by decide))
  have HG8 := Lib.hid (show w4.heap.size ≤ b8 by obtain ⟨b, e, hle, -⟩ := h8 (hl.out 8 (by decide)); rw [e8] at e; injection e with e; injection e with e; injection e with e; omega)
  have Hc8 := Lib.hid Hr8
  clear Hr8
  obtain ⟨-, b9, e9, Hr9⟩ := h11 (hl.out 11 (by decide))
  have HG9 := Lib.hid (show w4.heap.size ≤ b9 by obtain ⟨b, e, hle, -⟩ := h9 (hl.out 9 (by decide)); rw [e9] at e; injection e with e; injection e with e; injection e with e; omega)
  have Hc9 := Lib.hid Hr9
  clear Hr9
  have HN8_9 := Lib.hid (show b8 ≠ b9 from fun h => g8_9 (hl.out 8 (by decide)) (hl.out 9 (by decide)) (by rw [e8, e9, h]))
  clear hl HBQ h0 h1 h2 h3 h4 h5 h6 h7 h8 h9 h10 h11 g8_9
  simp only [putAll, Act.put, List.setIfInBounds_toArray, List.set_cons_succ, List.set_cons_zero]
  rw [e0, e1, e2, e3, e4, e5, e6, e7, e8, e9]
  clear e0 e1 e2 e3 e4 e5 e6 e7 e8 e9
  clear yv lv
  obtain ⟨w5, rfl⟩ : ∃ w5 : World, w5 = WE := ⟨_, rfl⟩
  have HB5 := Lib.hid (trans' HB4.out HBE.out)
  have HR5 := Lib.hid (keepb HBE.out HR4.out)
  have HD5 := Hc8
  have HS5 := Hc9
  clear HB4 HX4 HR4 HP4 HQ4 HBE CC CL1 CL2 HG8 HG9 HN8_9 Hc8 Hc9
  generalize b8 = cd at *
  generalize b9 = cs at *
  go_upto_region 3 with fail
  refine wp_region_quiet (C := fun W' => Below w5.heap.size w5 W') (by kernel_rfl) (by kernel_rfl) (Below.refl _ w5).drew ?_
  refine Go.BigFrame.wpQuiet_want (by rfl) (fun K hK => ⟨.agg #[.int .i64 dx, .int .i64 dy, .int .i64 dz], fun WQ hWQ => ?_, hK _ ?_⟩)
  · clear hK
    obtain ⟨q0, q1, q2⟩ := cells3 (keepb hWQ HD5.out)
    unfold Oper.quietAt
    go_simp
  clear hK K
  simp only [Act.put, List.setIfInBounds_toArray, List.set_cons_succ, List.set_cons_zero]
  refine Go.BigFrame.wpQuiet_want (by rfl) (fun K hK => ⟨.agg #[.int .i64 sx, .int .i64 sy, .int .i64 sz], fun WQ hWQ => ?_, hK _ ?_⟩)
  · clear hK
    obtain ⟨q0, q1, q2⟩ := cells3 (keepb hWQ HS5.out)
    unfold Oper.quietAt
    go_simp
  clear hK K
  simp only [Act.put, List.setIfInBounds_toArray, List.set_cons_succ, List.set_cons_zero]
  refine Go.BigFrame.wpQuiet_want (by rfl) (fun K hK => ⟨.agg #[.int .i64 y1, .int .i64 y2, .int .i64 y3], fun WQ hWQ => ?_, hK _ ?_⟩)
  · clear hK
    unfold Oper.quietAt
    go_simp
    exact (CP1.out WQ).mono (fun e w' h => ⟨h.1, andThen hWQ h.2⟩)
  clear hK K
  simp only [Act.put, List.setIfInBounds_toArray, List.set_cons_succ, List.set_cons_zero]
  refine Go.BigFrame.wpQuiet_want (by rfl) (fun K hK => ⟨.int .i64 dt, fun WQ hWQ => ?_, hK _ ?_⟩)
  · clear hK
    unfold Oper.quietAt
    go_simp
    exact (CS1.out WQ).mono (fun e w' h => ⟨h.1, andThen hWQ h.2⟩)
  clear hK K
  simp only [Act.put, List.setIfInBounds_toArray, List.set_cons_succ, List.set_cons_zero]
  refine Go.BigFrame.wpQuiet_want (by rfl) (fun K hK => ⟨.agg #[.int .i64 sx, .int .i64 sy, .int .i64 sz], fun WQ hWQ => ?_, hK _ ?_⟩)
  · clear hK
    obtain ⟨q0, q1, q2⟩ := cells3 (keepb hWQ HS5.out)
    unfold Oper.quietAt
    go_simp
  clear hK K
  simp only [Act.put, List.setIfInBounds_toArray, List.set_cons_succ, List.set_cons_zero]
  refine Go.BigFrame.wpQuiet_want (by rfl) (fun K hK => ⟨.agg #[.int .i64 sx, .int .i64 sy, .int .i64 sz], fun WQ hWQ => ?_, hK _ ?_⟩)
  · clear hK
    obtain ⟨q0, q1, q2⟩ := cells3 (keepb hWQ HS5.out)
    unfold Oper.quietAt
    go_simp
  clear hK K
  simp only [Act.put, List.setIfInBounds_toArray, List.set_cons_succ, List.set_cons_zero]
  refine Go.BigFrame.wpQuiet_want (by rfl) (fun K hK => ⟨.agg #[.int .i64 y4, .int .i64 y5, .int .i64 y6], fun WQ hWQ => ?_, hK _ ?_⟩)
  · clear hK
    unfold Oper.quietAt
    go_simp
    exact (CP2.out WQ).mono (fun e w' h => ⟨h.1, andThen hWQ h.2⟩)
  clear hK K
  simp only [Act.put, List.setIfInBounds_toArray, List.set_cons_succ, List.set_cons_zero]
  refine Go.BigFrame.wpQuiet_want (by rfl) (fun K hK => ⟨.int .i64 sq, fun WQ hWQ => ?_, hK _ ?_⟩)
  · clear hK
    unfold Oper.quietAt
    go_simp
    exact (CS2.out WQ).mono (fun e w' h => ⟨h.1, andThen hWQ h.2⟩)
  clear hK K
  simp only [Act.put, List.setIfInBounds_toArray, List.set_cons_succ, List.set_cons_zero]
  refine Go.BigFrame.wpQuiet_want (by rfl) (fun K hK => ⟨.int .i64 dt, fun WQ hWQ => ?_, hK _ ?_⟩)
  · clear hK
    unfold Oper.quietAt
    go_simp
  clear hK K
  simp only [Act.put, List.setIfInBounds_toArray, List.set_cons_succ, List.set_cons_zero]
  refine Go.BigFrame.wpQuiet_want (by rfl) (fun K hK => ⟨.int .i64 sq, fun WQ hWQ => ?_, hK _ ?_⟩)
  · clear hK
    unfold Oper.quietAt
    go_simp
  clear hK K
  simp only [Act.put, List.setIfInBounds_toArray, List.set_cons_succ, List.set_cons_zero]
  refine wpQuiet_nil ?_
  intro w6 hb
  have HB6 := Lib.hid (trans' HB5.out hb)
  have HR6 := Lib.hid (keepb hb HR5.out)
  have HD6 := Lib.hid (keepb hb HD5.out)
  clear hb HB5 HR5 HD5 HS5 CP1 CS1 CP2 CS2
  go_wp2_with fail
  refine (CD.out _).mono ?_
  rintro e w7 ⟨rfl, rfl⟩
  go_wp2_with fail
  refine (CU.out _).mono ?_
  rintro e w8 ⟨rfl, rfl⟩
  go_upto_region 5 with fail
  clear CD CU
  go_cut [15] from 49 to 63 (fun s15 wx => ∃ b15, s15 = .pointer (some ⟨b15, 0, none⟩) ∧ Hid (Below w6.heap.size w6 wx) ∧ Hid (wx.heap[b15]? = some (.cells #[.int .i64 al, .int .i64 ah] 34 (0, 0))) ∧ Hid (w6.heap.size ≤ b15))
  case first =>
    have hA : (f2 < f1 ∧ al = f2) ∨ (¬ f2 < f1 ∧ al = f1) := by
      have := HM.out
      by_cases c : f1 ≤ f2
      · rw [if_pos c] at this; exact .inr ⟨by omega, this⟩
      · rw [if_neg c] at this; exact .inl ⟨by omega, this⟩
    have hG : (c1 < c2 ∧ ah = c2) ∨ (¬ c1 < c2 ∧ ah = c1) := by
      have := HX.out
      by_cases c : c1 ≤ c2
      · rw [if_pos c] at this
        by_cases d : c1 < c2
        · exact .inl ⟨d, this⟩
        · exact .inr ⟨d, by omega⟩
      · rw [if_neg c] at this; exact .inr ⟨by omega, this⟩
    clear HM HX
    rcases hA with ⟨i1, rfl⟩ | ⟨i1, rfl⟩ <;> rcases hG with ⟨i2, rfl⟩ | ⟨i2, rfl⟩
    all_goals
      go_wp2_with fail
      refine (F1.out _).mono ?_
      rintro e w9 ⟨rfl, rfl⟩
      go_wp2_with fail
      refine (F2.out _).mono ?_
      rintro e w9 ⟨rfl, rfl⟩
      go_wp2_with fail
      refine (G1.out _).mono ?_
      rintro e w9 ⟨rfl, rfl⟩
      go_wp2_with fail
      refine (G2.out _).mono ?_
      rintro e w9 ⟨rfl, rfl⟩
      go_wp2_with fail
      go_meet
      case rel => exact ⟨_, rfl, Lib.hid (new_below _ _), Lib.hid (heap_alloc_new _ _), Lib.hid (Nat.le_refl _)⟩
  obtain ⟨b15, rfl, HBX, H15, HGE⟩ := hcut
  obtain ⟨w7, rfl⟩ : ∃ w7 : World, w7 = wc := ⟨_, rfl⟩
  have HB7 := Lib.hid (trans' HB6.out HBX.out)
  have HR7 := Lib.hid (keepb HBX.out HR6.out)
  have HD7 := Lib.hid (keepb HBX.out HD6.out)
  have HN15 := Lib.hid (show b15 ≠ w.heap.size + 1 + 1 + 1 from fun h => by have := lt_of_block HR6.out; have := HGE.out; omega)
  clear HB6 HR6 HD6 HBX F1 F2 G1 G2 HM HX HGE
  go_upto_region 6 with fail
  generalize ((al.natAbs : Nat) : Int) = na at *
  generalize ((ah.natAbs : Nat) : Int) = nb at *
  have m1 : (if na < nb then nb else na) = g := by rw [HG.out, Int.max_def]; split <;> split <;> omega
  have HMI := Lib.hid (show (if nb < na then nb else na) = min na nb by rw [Int.min_def]; split <;> split <;> omega)
  refine wp_region_quiet (C := fun W' => Below w7.heap.size w7 W') (by kernel_rfl) (by kernel_rfl) (Below.refl _ w7).drew ?_
  refine Go.BigFrame.wpQuiet_want (by rfl) (fun K hK => ⟨.pointer (some ⟨b15, 0, none⟩), fun WQ hWQ => ?_, hK _ ?_⟩)
  · clear hK
    unfold Oper.quietAt
    go_simp
  clear hK K
  simp only [Act.put, List.setIfInBounds_toArray, List.set_cons_succ, List.set_cons_zero]
  refine Go.BigFrame.wpQuiet_want (by rfl) (fun K hK => ⟨.int .i64 al, fun WQ hWQ => ?_, hK _ ?_⟩)
  · clear hK
    obtain ⟨z0, z1, -, -⟩ := two_cells (keepb hWQ H15.out)
    unfold Oper.quietAt
    go_simp
  clear hK K
  simp only [Act.put, List.setIfInBounds_toArray, List.set_cons_succ, List.set_cons_zero]
  refine Go.BigFrame.wpQuiet_want (by rfl) (fun K hK => ⟨.int .i64 na, fun WQ hWQ => ?_, hK _ ?_⟩)
  · clear hK
    unfold Oper.quietAt
    go_simp
    exact (CZ1.out WQ).mono (fun e w' h => ⟨h.1, by rw [← h.2]; exact hWQ⟩)
  clear hK K
  simp only [Act.put, List.setIfInBounds_toArray, List.set_cons_succ, List.set_cons_zero]
  refine Go.BigFrame.wpQuiet_want (by rfl) (fun K hK => ⟨.pointer (some ⟨b15, 1, none⟩), fun WQ hWQ => ?_, hK _ ?_⟩)
  · clear hK
    unfold Oper.quietAt
    go_simp
  clear hK K
  simp only [Act.put, List.setIfInBounds_toArray, List.set_cons_succ, List.set_cons_zero]
  refine Go.BigFrame.wpQuiet_want (by rfl) (fun K hK => ⟨.int .i64 ah, fun WQ hWQ => ?_, hK _ ?_⟩)
  · clear hK
    obtain ⟨z0, z1, -, -⟩ := two_cells (keepb hWQ H15.out)
    unfold Oper.quietAt
    go_simp
  clear hK K
  simp only [Act.put, List.setIfInBounds_toArray, List.set_cons_succ, List.set_cons_zero]
  refine Go.BigFrame.wpQuiet_want (by rfl) (fun K hK => ⟨.int .i64 nb, fun WQ hWQ => ?_, hK _ ?_⟩)
  · clear hK
    unfold Oper.quietAt
    go_simp
    exact (CZ2.out WQ).mono (fun e w' h => ⟨h.1, by rw [← h.2]; exact hWQ⟩)
  clear hK K
  simp only [Act.put, List.setIfInBounds_toArray, List.set_cons_succ, List.set_cons_zero]
  refine Go.BigFrame.wpQuiet_want (by rfl) (fun K hK => ⟨.int .i64 g, fun WQ hWQ => ?_, hK _ ?_⟩)
  · clear hK
    unfold Oper.quietAt
    go_simp
  clear hK K
  simp only [Act.put, List.setIfInBounds_toArray, List.set_cons_succ, List.set_cons_zero]
  refine Go.BigFrame.wpQuiet_want (by rfl) (fun K hK => ⟨.pointer (some ⟨b15, 0, none⟩), fun WQ hWQ => ?_, hK _ ?_⟩)
  · clear hK
    unfold Oper.quietAt
    go_simp
  clear hK K
  simp only [Act.put, List.setIfInBounds_toArray, List.set_cons_succ, List.set_cons_zero]
  refine Go.BigFrame.wpQuiet_want (by rfl) (fun K hK => ⟨.int .i64 al, fun WQ hWQ => ?_, hK _ ?_⟩)
  · clear hK
    obtain ⟨z0, z1, -, -⟩ := two_cells (keepb hWQ H15.out)
    unfold Oper.quietAt
    go_simp
  clear hK K
  simp only [Act.put, List.setIfInBounds_toArray, List.set_cons_succ, List.set_cons_zero]
  refine Go.BigFrame.wpQuiet_want (by rfl) (fun K hK => ⟨.int .i64 na, fun WQ hWQ => ?_, hK _ ?_⟩)
  · clear hK
    unfold Oper.quietAt
    go_simp
    exact (CZ1.out WQ).mono (fun e w' h => ⟨h.1, by rw [← h.2]; exact hWQ⟩)
  clear hK K
  simp only [Act.put, List.setIfInBounds_toArray, List.set_cons_succ, List.set_cons_zero]
  refine Go.BigFrame.wpQuiet_want (by rfl) (fun K hK => ⟨.pointer (some ⟨b15, 1, none⟩), fun WQ hWQ => ?_, hK _ ?_⟩)
  · clear hK
    unfold Oper.quietAt
    go_simp
  clear hK K
  simp only [Act.put, List.setIfInBounds_toArray, List.set_cons_succ, List.set_cons_zero]
  refine Go.BigFrame.wpQuiet_want (by rfl) (fun K hK => ⟨.int .i64 ah, fun WQ hWQ => ?_, hK _ ?_⟩)
  · clear hK
    obtain ⟨z0, z1, -, -⟩ := two_cells (keepb hWQ H15.out)
    unfold Oper.quietAt
    go_simp
  clear hK K
  simp only [Act.put, List.setIfInBounds_toArray, List.set_cons_succ, List.set_cons_zero]
  refine Go.BigFrame.wpQuiet_want (by rfl) (fun K hK => ⟨.int .i64 nb, fun WQ hWQ => ?_, hK _ ?_⟩)
  · clear hK
    unfold Oper.quietAt
    go_simp
    exact (CZ2.out WQ).mono (fun e w' h => ⟨h.1, by rw [← h.2]; exact hWQ⟩)
  clear hK K
  simp only [Act.put, List.setIfInBounds_toArray, List.set_cons_succ, List.set_cons_zero]
  refine Go.BigFrame.wpQuiet_want (by rfl) (fun K hK => ⟨.int .i64 (if nb < na then nb else na), fun WQ hWQ => ?_, hK _ ?_⟩)
  · clear hK
    unfold Oper.quietAt
    go_simp
  clear hK K
  simp only [Act.put, List.setIfInBounds_toArray, List.set_cons_succ, List.set_cons_zero]
  refine Go.BigFrame.wpQuiet_want (by rfl) (fun K hK => ⟨.int .i64 g, fun WQ hWQ => ?_, hK _ ?_⟩)
  · clear hK
    unfold Oper.quietAt
    go_simp
  clear hK K
  simp only [Act.put, List.setIfInBounds_toArray, List.set_cons_succ, List.set_cons_zero]
  refine Go.BigFrame.wpQuiet_want (by rfl) (fun K hK => ⟨.int .i64 (if nb < na then nb else na), fun WQ hWQ => ?_, hK _ ?_⟩)
  · clear hK
    unfold Oper.quietAt
    go_simp
  clear hK K
  simp only [Act.put, List.setIfInBounds_toArray, List.set_cons_succ, List.set_cons_zero]
  refine wpQuiet_nil ?_
  intro w8 hb
  rw [HMI.out]
  have HB8 := Lib.hid (trans' HB7.out hb)
  have HR8 := Lib.hid (keepb hb HR7.out)
  have HD8 := Lib.hid (keepb hb HD7.out)
  have H158 := Lib.hid (keepb hb H15.out)
  clear hb HB7 HR7 HD7 H15 HMI m1 CZ1 CZ2
  obtain ⟨z0, z1, -, -⟩ := two_cells H158.out
  go_upto_region 7 with fail
  have HBL : Hid (∃ bb : Bool, bb = decide (al < 0 ∧ 0 < ah)) := ⟨_, rfl⟩
  obtain ⟨bb, hbb⟩ := HBL.out
  have HBB := Lib.hid hbb
  clear hbb HBL
  go_cut [85] from 78 to 84 (fun s85 wx => s85 = .bool bb ∧ Hid (wx = w8))
  case first =>
    by_cases i1 : al < 0
    · by_cases i2 : 0 < ah
      · obtain rfl := HBB.out.trans (decide_eq_true ⟨i1, i2⟩)
        go_wp2_with fail
        go_meet
        case rel => exact ⟨rfl, rfl⟩
      · obtain rfl := HBB.out.trans (decide_eq_false fun h => i2 h.2)
        go_wp2_with fail
        go_meet
        case rel => exact ⟨rfl, rfl⟩
    · obtain rfl := HBB.out.trans (decide_eq_false fun h => i1 h.1)
      go_wp2_with fail
      go_meet
      case rel => exact ⟨rfl, rfl⟩
  obtain ⟨rfl, HW8⟩ := hcut
  obtain rfl := HW8.out
  obtain ⟨w9, rfl⟩ : ∃ w9 : World, w9 = wc := ⟨_, rfl⟩
  clear z0 z1 HW8
  go_upto_if 85 with fail
  go_cut [17] from 85 to 85 (fun s17 wx => s17 = .int .i64 l ∧ Hid (wx = w9))
  case first =>
    cases bb with
    | true =>
      obtain rfl := HL.out.trans (if_pos (of_decide_eq_true HBB.out.symm))
      go_wp2_with fail
      go_meet
      case rel => exact ⟨rfl, rfl⟩
    | false =>
      obtain rfl := HL.out.trans (if_neg (of_decide_eq_false HBB.out.symm))
      go_wp2_with fail
      go_meet
      case rel => exact ⟨rfl, rfl⟩
  obtain ⟨rfl, HW9⟩ := hcut
  obtain rfl := HW9.out
  obtain ⟨w9, rfl⟩ : ∃ w9 : World, w9 = wc := ⟨_, rfl⟩
  clear HL HG HBB bb HW9
  obtain ⟨k0, k1, k2⟩ := cells3 HD8.out
  go_wp2_with fail
  refine (CP3.out _).mono ?_
  rintro e w10 ⟨rfl, hb⟩
  have HB10 := Lib.hid (trans' HB8.out hb)
  have HR10 := Lib.hid (keepb hb HR8.out)
  have H1510 := Lib.hid (keepb hb H158.out)
  clear hb k0 k1 k2 HB8 HR8 HD8 H158 CP3
  go_wp2_with fail
  refine (CS3.out _).mono ?_
  rintro e w11 ⟨rfl, hb⟩
  have HB11 := Lib.hid (trans' HB10.out hb)
  have HR11 := Lib.hid (keepb hb HR10.out)
  have H1511 := Lib.hid (keepb hb H1510.out)
  clear hb HB10 HR10 H1510 CS3
  go_upto_region 10 with fail
  have hmA : (if 0 < ma then ma else 0) = mA := by
    rcases HA.out with ⟨j1, hA⟩ | ⟨j1, hA⟩
    · rw [if_pos j1]; exact hA.symm
    · rw [if_neg (by omega)]; exact hA.symm
  have hmB : (if 0 < mb then mb else 0) = mB := by
    rcases HC.out with ⟨j1, hA⟩ | ⟨j1, hA⟩
    · rw [if_pos j1]; exact hA.symm
    · rw [if_neg (by omega)]; exact hA.symm
  obtain ⟨w1', w2', w3', w4'⟩ := HW.out
  have hle : w.heap.size ≤ w.heap.size + 1 + 1 + 1 := by omega
  clear HA HC HW
  refine region_vals (fun lv yv W => Below w.heap.size w W ∧ (lv 0 = true → yv 0 = .agg #[.int .i64 al, .int .i64 ah]) ∧ (lv 1 = true → yv 1 = .int .i64 all) ∧ (lv 2 = true → yv 2 = .int .i64 g) ∧ (lv 3 = true → yv 3 = .int .i64 g) ∧ (lv 4 = true → yv 4 = .int .i64 gg) ∧ (lv 5 = true → yv 5 = .int .i64 ma) ∧ (lv 6 = true → yv 6 = .int .i64 mA) ∧ (lv 7 = true → yv 7 = .int .i64 cl) ∧ (lv 8 = true → yv 8 = .int .i64 all) ∧ (lv 9 = true → yv 9 = .int .i64 l) ∧ (lv 10 = true → yv 10 = .int .i64 l) ∧ (lv 11 = true → yv 11 = .int .i64 ll) ∧ (lv 12 = true → yv 12 = .int .i64 mb) ∧ (lv 13 = true → yv 13 = .int .i64 mB) ∧ (lv 14 = true → yv 14 = .int .i64 ch) ∧ (lv 15 = true → yv 15 = .agg #[.int .i64 cl, .int .i64 ch]) ∧ (lv 16 = true → yv 16 = .agg #[.int .i64 al, .int .i64 ah, .int .i64 cl, .int .i64 ch]) ∧ (lv 17 = true → W.heap[w.heap.size + 1 + 1 + 1]? = some (.cells #[.int .i64 al, .int .i64 ah, .int .i64 cl, .int .i64 ch] 35 (0, 0))) ∧ (∃ cs : Array Value, cs.size = 4 ∧ W.heap[w.heap.size + 1 + 1 + 1]? = some (.cells cs 35 (0, 0))) ∧ W.heap[b15]? = some (.cells #[.int .i64 al, .int .i64 ah] 34 (0, 0))) (fun _ => undef) (by kernel_rfl) (by kernel_rfl) (by kernel_rfl) ⟨(HB11.out).drew, fun h => absurd h Bool.false_ne_true, fun h => absurd h Bool.false_ne_true, fun h => absurd h Bool.false_ne_true, fun h => absurd h Bool.false_ne_true, fun h => absurd h Bool.false_ne_true, fun h => absurd h Bool.false_ne_true, fun h => absurd h Bool.false_ne_true, fun h => absurd h Bool.false_ne_true, fun h => absurd h Bool.false_ne_true, fun h => absurd h Bool.false_ne_true, fun h => absurd h Bool.false_ne_true, fun h => absurd h Bool.false_ne_true, fun h => absurd h Bool.false_ne_true, fun h => absurd h Bool.false_ne_true, fun h => absurd h Bool.false_ne_true, fun h => absurd h Bool.false_ne_true, fun h => absurd h Bool.false_ne_true, fun h => absurd h Bool.false_ne_true, ⟨#[.int .i64 0, .int .i64 0, .int .i64 0, .int .i64 0], rfl, HR11.out⟩, H1511.out⟩ ?_ ?_
  · -- the operations
    refine Steps.val (k' := 1) (.agg #[.int .i64 al, .int .i64 ah]) rfl (fun _ => by kernel_rfl) (fun _ => by kernel_rfl) ?_ ?_ ?_
    · intro lv yv WQ hd hI
      have HBQ := hI.1
      have h0 := hI.2.1
      have h1 := hI.2.2.1
      have h2 := hI.2.2.2.1
      have h3 := hI.2.2.2.2.1
      have h4 := hI.2.2.2.2.2.1
      have h5 := hI.2.2.2.2.2.2.1
      have h6 := hI.2.2.2.2.2.2.2.1
      have h7 := hI.2.2.2.2.2.2.2.2.1
      have h8 := hI.2.2.2.2.2.2.2.2.2.1
      have h9 := hI.2.2.2.2.2.2.2.2.2.2.1
      have h10 := hI.2.2.2.2.2.2.2.2.2.2.2.1
      have h11 := hI.2.2.2.2.2.2.2.2.2.2.2.2.1
      have h12 := hI.2.2.2.2.2.2.2.2.2.2.2.2.2.1
      have h13 := hI.2.2.2.2.2.2.2.2.2.2.2.2.2.2.1
      have h14 := hI.2.2.2.2.2.2.2.2.2.2.2.2.2.2.2.1
      have h15 := hI.2.2.2.2.2.2.2.2.2.2.2.2.2.2.2.2.1
      have h16 := hI.2.2.2.2.2.2.2.2.2.2.2.2.2.2.2.2.2.1
      have h17 := hI.2.2.2.2.2.2.2.2.2.2.2.2.2.2.2.2.2.2.1
      have R := hI.2.2.2.2.2.2.2.2.2.2.2.2.2.2.2.2.2.2.2.1
      have IA := hI.2.2.2.2.2.2.2.2.2.2.2.2.2.2.2.2.2.2.2.2
      clear hI
      simp only [putAll, Act.put, List.setIfInBounds_toArray, List.set_cons_succ, List.set_cons_zero]
      clear h0 h1 h2 h3 h4 h5 h6 h7 h8 h9 h10 h11 h12 h13 h14 h15 h16 h17 R hd
      obtain ⟨z0, z1, -, -⟩ := two_cells IA
      unfold Oper.quietAt
      go_simp
    · intro lv yv WQ W' hI hb
      have HBQ := hI.1
      have h0 := hI.2.1
      have h1 := hI.2.2.1
      have h2 := hI.2.2.2.1
      have h3 := hI.2.2.2.2.1
      have h4 := hI.2.2.2.2.2.1
      have h5 := hI.2.2.2.2.2.2.1
      have h6 := hI.2.2.2.2.2.2.2.1
      have h7 := hI.2.2.2.2.2.2.2.2.1
      have h8 := hI.2.2.2.2.2.2.2.2.2.1
      have h9 := hI.2.2.2.2.2.2.2.2.2.2.1
      have h10 := hI.2.2.2.2.2.2.2.2.2.2.2.1
      have h11 := hI.2.2.2.2.2.2.2.2.2.2.2.2.1
      have h12 := hI.2.2.2.2.2.2.2.2.2.2.2.2.2.1
      have h13 := hI.2.2.2.2.2.2.2.2.2.2.2.2.2.2.1
      have h14 := hI.2.2.2.2.2.2.2.2.2.2.2.2.2.2.2.1
      have h15 := hI.2.2.2.2.2.2.2.2.2.2.2.2.2.2.2.2.1
      have h16 := hI.2.2.2.2.2.2.2.2.2.2.2.2.2.2.2.2.2.1
      have h17 := hI.2.2.2.2.2.2.2.2.2.2.2.2.2.2.2.2.2.2.1
      have R := hI.2.2.2.2.2.2.2.2.2.2.2.2.2.2.2.2.2.2.2.1
      have IA := hI.2.2.2.2.2.2.2.2.2.2.2.2.2.2.2.2.2.2.2.2
      clear hI
      exact ⟨andThen HBQ hb, fun _ => rfl, h1, h2, h3, h4, h5, h6, h7, h8, h9, h10, h11, h12, h13, h14, h15, h16, fun h => keepb hb (h17 h), R.elim fun cs h => ⟨cs, h.1, keepb hb h.2⟩, keepb hb IA⟩
    refine Steps.val (k' := 2) (.int .i64 all) rfl (fun _ => by kernel_rfl) (fun _ => by kernel_rfl) ?_ ?_ ?_
    · intro lv yv WQ hd hI
      have HBQ := hI.1
      have h0 := hI.2.1
      have h1 := hI.2.2.1
      have h2 := hI.2.2.2.1
      have h3 := hI.2.2.2.2.1
      have h4 := hI.2.2.2.2.2.1
      have h5 := hI.2.2.2.2.2.2.1
      have h6 := hI.2.2.2.2.2.2.2.1
      have h7 := hI.2.2.2.2.2.2.2.2.1
      have h8 := hI.2.2.2.2.2.2.2.2.2.1
      have h9 := hI.2.2.2.2.2.2.2.2.2.2.1
      have h10 := hI.2.2.2.2.2.2.2.2.2.2.2.1
      have h11 := hI.2.2.2.2.2.2.2.2.2.2.2.2.1
      have h12 := hI.2.2.2.2.2.2.2.2.2.2.2.2.2.1
      have h13 := hI.2.2.2.2.2.2.2.2.2.2.2.2.2.2.1
      have h14 := hI.2.2.2.2.2.2.2.2.2.2.2.2.2.2.2.1
      have h15 := hI.2.2.2.2.2.2.2.2.2.2.2.2.2.2.2.2.1
      have h16 := hI.2.2.2.2.2.2.2.2.2.2.2.2.2.2.2.2.2.1
      have h17 := hI.2.2.2.2.2.2.2.2.2.2.2.2.2.2.2.2.2.2.1
      have R := hI.2.2.2.2.2.2.2.2.2.2.2.2.2.2.2.2.2.2.2.1
      have IA := hI.2.2.2.2.2.2.2.2.2.2.2.2.2.2.2.2.2.2.2.2
      clear hI
      simp only [putAll, Act.put, List.setIfInBounds_toArray, List.set_cons_succ, List.set_cons_zero]
      clear h0 h1 h2 h3 h4 h5 h6 h7 h8 h9 h10 h11 h12 h13 h14 h15 h16 h17 R hd
      unfold Oper.quietAt
      go_simp
    · intro lv yv WQ W' hI hb
      have HBQ := hI.1
      have h0 := hI.2.1
      have h1 := hI.2.2.1
      have h2 := hI.2.2.2.1
      have h3 := hI.2.2.2.2.1
      have h4 := hI.2.2.2.2.2.1
      have h5 := hI.2.2.2.2.2.2.1
      have h6 := hI.2.2.2.2.2.2.2.1
      have h7 := hI.2.2.2.2.2.2.2.2.1
      have h8 := hI.2.2.2.2.2.2.2.2.2.1
      have h9 := hI.2.2.2.2.2.2.2.2.2.2.1
      have h10 := hI.2.2.2.2.2.2.2.2.2.2.2.1
      have h11 := hI.2.2.2.2.2.2.2.2.2.2.2.2.1
      have h12 := hI.2.2.2.2.2.2.2.2.2.2.2.2.2.1
      have h13 := hI.2.2.2.2.2.2.2.2.2.2.2.2.2.2.1
      have h14 := hI.2.2.2.2.2.2.2.2.2.2.2.2.2.2.2.1
      have h15 := hI.2.2.2.2.2.2.2.2.2.2.2.2.2.2.2.2.1
      have h16 := hI.2.2.2.2.2.2.2.2.2.2.2.2.2.2.2.2.2.1
      have h17 := hI.2.2.2.2.2.2.2.2.2.2.2.2.2.2.2.2.2.2.1
      have R := hI.2.2.2.2.2.2.2.2.2.2.2.2.2.2.2.2.2.2.2.1
      have IA := hI.2.2.2.2.2.2.2.2.2.2.2.2.2.2.2.2.2.2.2.2
      clear hI
      exact ⟨andThen HBQ hb, h0, fun _ => rfl, h2, h3, h4, h5, h6, h7, h8, h9, h10, h11, h12, h13, h14, h15, h16, fun h => keepb hb (h17 h), R.elim fun cs h => ⟨cs, h.1, keepb hb h.2⟩, keepb hb IA⟩
    refine Steps.val (k' := 3) (.int .i64 g) rfl (fun _ => by kernel_rfl) (fun _ => by kernel_rfl) ?_ ?_ ?_
    · intro lv yv WQ hd hI
      have HBQ := hI.1
      have h0 := hI.2.1
      have h1 := hI.2.2.1
      have h2 := hI.2.2.2.1
      have h3 := hI.2.2.2.2.1
      have h4 := hI.2.2.2.2.2.1
      have h5 := hI.2.2.2.2.2.2.1
      have h6 := hI.2.2.2.2.2.2.2.1
      have h7 := hI.2.2.2.2.2.2.2.2.1
      have h8 := hI.2.2.2.2.2.2.2.2.2.1
      have h9 := hI.2.2.2.2.2.2.2.2.2.2.1
      have h10 := hI.2.2.2.2.2.2.2.2.2.2.2.1
      have h11 := hI.2.2.2.2.2.2.2.2.2.2.2.2.1
      have h12 := hI.2.2.2.2.2.2.2.2.2.2.2.2.2.1
      have h13 := hI.2.2.2.2.2.2.2.2.2.2.2.2.2.2.1
      have h14 := hI.2.2.2.2.2.2.2.2.2.2.2.2.2.2.2.1
      have h15 := hI.2.2.2.2.2.2.2.2.2.2.2.2.2.2.2.2.1
      have h16 := hI.2.2.2.2.2.2.2.2.2.2.2.2.2.2.2.2.2.1
      have h17 := hI.2.2.2.2.2.2.2.2.2.2.2.2.2.2.2.2.2.2.1
      have R := hI.2.2.2.2.2.2.2.2.2.2.2.2.2.2.2.2.2.2.2.1
      have IA := hI.2.2.2.2.2.2.2.2.2.2.2.2.2.2.2.2.2.2.2.2
      clear hI
      simp only [putAll, Act.put, List.setIfInBounds_toArray, List.set_cons_succ, List.set_cons_zero]
      clear h0 h1 h2 h3 h4 h5 h6 h7 h8 h9 h10 h11 h12 h13 h14 h15 h16 h17 R hd
      unfold Oper.quietAt
      go_simp
    · intro lv yv WQ W' hI hb
      have HBQ := hI.1
      have h0 := hI.2.1
      have h1 := hI.2.2.1
      have h2 := hI.2.2.2.1
      have h3 := hI.2.2.2.2.1
      have h4 := hI.2.2.2.2.2.1
      have h5 := hI.2.2.2.2.2.2.1
      have h6 := hI.2.2.2.2.2.2.2.1
      have h7 := hI.2.2.2.2.2.2.2.2.1
      have h8 := hI.2.2.2.2.2.2.2.2.2.1
      have h9 := hI.2.2.2.2.2.2.2.2.2.2.1
      have h10 := hI.2.2.2.2.2.2.2.2.2.2.2.1
      have h11 := hI.2.2.2.2.2.2.2.2.2.2.2.2.1
      have h12 := hI.2.2.2.2.2.2.2.2.2.2.2.2.2.1
      have h13 := hI.2.2.2.2.2.2.2.2.2.2.2.2.2.2.1
      have h14 := hI.2.2.2.2.2.2.2.2.2.2.2.2.2.2.2.1
      have h15 := hI.2.2.2.2.2.2.2.2.2.2.2.2.2.2.2.2.1
      have h16 := hI.2.2.2.2.2.2.2.2.2.2.2.2.2.2.2.2.2.1
      have h17 := hI.2.2.2.2.2.2.2.2.2.2.2.2.2.2.2.2.2.2.1
      have R := hI.2.2.2.2.2.2.2.2.2.2.2.2.2.2.2.2.2.2.2.1
      have IA := hI.2.2.2.2.2.2.2.2.2.2.2.2.2.2.2.2.2.2.2.2
      clear hI
      exact ⟨andThen HBQ hb, h0, h1, fun _ => rfl, h3, h4, h5, h6, h7, h8, h9, h10, h11, h12, h13, h14, h15, h16, fun h => keepb hb (h17 h), R.elim fun cs h => ⟨cs, h.1, keepb hb h.2⟩, keepb hb IA⟩
    refine Steps.val (k' := 4) (.int .i64 g) rfl (fun _ => by kernel_rfl) (fun _ => by kernel_rfl) ?_ ?_ ?_
    · intro lv yv WQ hd hI
      have HBQ := hI.1
      have h0 := hI.2.1
      have h1 := hI.2.2.1
      have h2 := hI.2.2.2.1
      have h3 := hI.2.2.2.2.1
      have h4 := hI.2.2.2.2.2.1
      have h5 := hI.2.2.2.2.2.2.1
      have h6 := hI.2.2.2.2.2.2.2.1
      have h7 := hI.2.2.2.2.2.2.2.2.1
      have h8 := hI.2.2.2.2.2.2.2.2.2.1
      have h9 := hI.2.2.2.2.2.2.2.2.2.2.1
      have h10 := hI.2.2.2.2.2.2.2.2.2.2.2.1
      have h11 := hI.2.2.2.2.2.2.2.2.2.2.2.2.1
      have h12 := hI.2.2.2.2.2.2.2.2.2.2.2.2.2.1
      have h13 := hI.2.2.2.2.2.2.2.2.2.2.2.2.2.2.1
      have h14 := hI.2.2.2.2.2.2.2.2.2.2.2.2.2.2.2.1
      have h15 := hI.2.2.2.2.2.2.2.2.2.2.2.2.2.2.2.2.1
      have h16 := hI.2.2.2.2.2.2.2.2.2.2.2.2.2.2.2.2.2.1
      have h17 := hI.2.2.2.2.2.2.2.2.2.2.2.2.2.2.2.2.2.2.1
      have R := hI.2.2.2.2.2.2.2.2.2.2.2.2.2.2.2.2.2.2.2.1
      have IA := hI.2.2.2.2.2.2.2.2.2.2.2.2.2.2.2.2.2.2.2.2
      clear hI
      simp only [putAll, Act.put, List.setIfInBounds_toArray, List.set_cons_succ, List.set_cons_zero]
      clear h0 h1 h2 h3 h4 h5 h6 h7 h8 h9 h10 h11 h12 h13 h14 h15 h16 h17 R hd
      unfold Oper.quietAt
      go_simp
    · intro lv yv WQ W' hI hb
      have HBQ := hI.1
      have h0 := hI.2.1
      have h1 := hI.2.2.1
      have h2 := hI.2.2.2.1
      have h3 := hI.2.2.2.2.1
      have h4 := hI.2.2.2.2.2.1
      have h5 := hI.2.2.2.2.2.2.1
      have h6 := hI.2.2.2.2.2.2.2.1
      have h7 := hI.2.2.2.2.2.2.2.2.1
      have h8 := hI.2.2.2.2.2.2.2.2.2.1
      have h9 := hI.2.2.2.2.2.2.2.2.2.2.1
      have h10 := hI.2.2.2.2.2.2.2.2.2.2.2.1
      have h11 := hI.2.2.2.2.2.2.2.2.2.2.2.2.1
      have h12 := hI.2.2.2.2.2.2.2.2.2.2.2.2.2.1
      have h13 := hI.2.2.2.2.2.2.2.2.2.2.2.2.2.2.1
      have h14 := hI.2.2.2.2.2.2.2.2.2.2.2.2.2.2.2.1
      have h15 := hI.2.2.2.2.2.2.2.2.2.2.2.2.2.2.2.2.1
      have h16 := hI.2.2.2.2.2.2.2.2.2.2.2.2.2.2.2.2.2.1
      have h17 := hI.2.2.2.2.2.2.2.2.2.2.2.2.2.2.2.2.2.2.1
      have R := hI.2.2.2.2.2.2.2.2.2.2.2.2.2.2.2.2.2.2.2.1
      have IA := hI.2.2.2.2.2.2.2.2.2.2.2.2.2.2.2.2.2.2.2.2
      clear hI
      exact ⟨andThen HBQ hb, h0, h1, h2, fun _ => rfl, h4, h5, h6, h7, h8, h9, h10, h11, h12, h13, h14, h15, h16, fun h => keepb hb (h17 h), R.elim fun cs h => ⟨cs, h.1, keepb hb h.2⟩, keepb hb IA⟩
    refine Steps.val (k' := 5) (.int .i64 gg) rfl (fun _ => by kernel_rfl) (fun _ => by kernel_rfl) ?_ ?_ ?_
    · intro lv yv WQ hd hI
      have HBQ := hI.1
      have h0 := hI.2.1
      have h1 := hI.2.2.1
      have h2 := hI.2.2.2.1
      have h3 := hI.2.2.2.2.1
      have h4 := hI.2.2.2.2.2.1
      have h5 := hI.2.2.2.2.2.2.1
      have h6 := hI.2.2.2.2.2.2.2.1
      have h7 := hI.2.2.2.2.2.2.2.2.1
      have h8 := hI.2.2.2.2.2.2.2.2.2.1
      have h9 := hI.2.2.2.2.2.2.2.2.2.2.1
      have h10 := hI.2.2.2.2.2.2.2.2.2.2.2.1
      have h11 := hI.2.2.2.2.2.2.2.2.2.2.2.2.1
      have h12 := hI.2.2.2.2.2.2.2.2.2.2.2.2.2.1
      have h13 := hI.2.2.2.2.2.2.2.2.2.2.2.2.2.2.1
      have h14 := hI.2.2.2.2.2.2.2.2.2.2.2.2.2.2.2.1
      have h15 := hI.2.2.2.2.2.2.2.2.2.2.2.2.2.2.2.2.1
      have h16 := hI.2.2.2.2.2.2.2.2.2.2.2.2.2.2.2.2.2.1
      have h17 := hI.2.2.2.2.2.2.2.2.2.2.2.2.2.2.2.2.2.2.1
      have R := hI.2.2.2.2.2.2.2.2.2.2.2.2.2.2.2.2.2.2.2.1
      have IA := hI.2.2.2.2.2.2.2.2.2.2.2.2.2.2.2.2.2.2.2.2
      clear hI
      have d2 := dep_of hd 2 (by kernel_rfl)
      have d3 := dep_of hd 3 (by kernel_rfl)
      simp only [putAll, Act.put, List.setIfInBounds_toArray, List.set_cons_succ, List.set_cons_zero]
      rw [h2 d2, h3 d3]
      clear h0 h1 h2 h3 h4 h5 h6 h7 h8 h9 h10 h11 h12 h13 h14 h15 h16 h17 R d2 d3 hd
      unfold Oper.quietAt
      go_simp
    · intro lv yv WQ W' hI hb
      have HBQ := hI.1
      have h0 := hI.2.1
      have h1 := hI.2.2.1
      have h2 := hI.2.2.2.1
      have h3 := hI.2.2.2.2.1
      have h4 := hI.2.2.2.2.2.1
      have h5 := hI.2.2.2.2.2.2.1
      have h6 := hI.2.2.2.2.2.2.2.1
      have h7 := hI.2.2.2.2.2.2.2.2.1
      have h8 := hI.2.2.2.2.2.2.2.2.2.1
      have h9 := hI.2.2.2.2.2.2.2.2.2.2.1
      have h10 := hI.2.2.2.2.2.2.2.2.2.2.2.1
      have h11 := hI.2.2.2.2.2.2.2.2.2.2.2.2.1
      have h12 := hI.2.2.2.2.2.2.2.2.2.2.2.2.2.1
      have h13 := hI.2.2.2.2.2.2.2.2.2.2.2.2.2.2.1
      have h14 := hI.2.2.2.2.2.2.2.2.2.2.2.2.2.2.2.1
      have h15 := hI.2.2.2.2.2.2.2.2.2.2.2.2.2.2.2.2.1
      have h16 := hI.2.2.2.2.2.2.2.2.2.2.2.2.2.2.2.2.2.1
      have h17 := hI.2.2.2.2.2.2.2.2.2.2.2.2.2.2.2.2.2.2.1
      have R := hI.2.2.2.2.2.2.2.2.2.2.2.2.2.2.2.2.2.2.2.1
      have IA := hI.2.2.2.2.2.2.2.2.2.2.2.2.2.2.2.2.2.2.2.2
      clear hI
      exact ⟨andThen HBQ hb, h0, h1, h2, h3, fun _ => rfl, h5, h6, h7, h8, h9, h10, h11, h12, h13, h14, h15, h16, fun h => keepb hb (h17 h), R.elim fun cs h => ⟨cs, h.1, keepb hb h.2⟩, keepb hb IA⟩
    refine Steps.val (k' := 6) (.int .i64 ma) rfl (fun _ => by kernel_rfl) (fun _ => by kernel_rfl) ?_ ?_ ?_
    · intro lv yv WQ hd hI
      have HBQ := hI.1
      have h0 := hI.2.1
      have h1 := hI.2.2.1
      have h2 := hI.2.2.2.1
      have h3 := hI.2.2.2.2.1
      have h4 := hI.2.2.2.2.2.1
      have h5 := hI.2.2.2.2.2.2.1
      have h6 := hI.2.2.2.2.2.2.2.1
      have h7 := hI.2.2.2.2.2.2.2.2.1
      have h8 := hI.2.2.2.2.2.2.2.2.2.1
      have h9 := hI.2.2.2.2.2.2.2.2.2.2.1
      have h10 := hI.2.2.2.2.2.2.2.2.2.2.2.1
      have h11 := hI.2.2.2.2.2.2.2.2.2.2.2.2.1
      have h12 := hI.2.2.2.2.2.2.2.2.2.2.2.2.2.1
      have h13 := hI.2.2.2.2.2.2.2.2.2.2.2.2.2.2.1
      have h14 := hI.2.2.2.2.2.2.2.2.2.2.2.2.2.2.2.1
      have h15 := hI.2.2.2.2.2.2.2.2.2.2.2.2.2.2.2.2.1
      have h16 := hI.2.2.2.2.2.2.2.2.2.2.2.2.2.2.2.2.2.1
      have h17 := hI.2.2.2.2.2.2.2.2.2.2.2.2.2.2.2.2.2.2.1
      have R := hI.2.2.2.2.2.2.2.2.2.2.2.2.2.2.2.2.2.2.2.1
      have IA := hI.2.2.2.2.2.2.2.2.2.2.2.2.2.2.2.2.2.2.2.2
      clear hI
      have d1 := dep_of hd 1 (by kernel_rfl)
      have d4 := dep_of hd 4 (by kernel_rfl)
      simp only [putAll, Act.put, List.setIfInBounds_toArray, List.set_cons_succ, List.set_cons_zero]
      rw [h1 d1, h4 d4]
      clear h0 h1 h2 h3 h4 h5 h6 h7 h8 h9 h10 h11 h12 h13 h14 h15 h16 h17 R d1 d4 hd
      unfold Oper.quietAt
      go_simp
    · intro lv yv WQ W' hI hb
      have HBQ := hI.1
      have h0 := hI.2.1
      have h1 := hI.2.2.1
      have h2 := hI.2.2.2.1
      have h3 := hI.2.2.2.2.1
      have h4 := hI.2.2.2.2.2.1
      have h5 := hI.2.2.2.2.2.2.1
      have h6 := hI.2.2.2.2.2.2.2.1
      have h7 := hI.2.2.2.2.2.2.2.2.1
      have h8 := hI.2.2.2.2.2.2.2.2.2.1
      have h9 := hI.2.2.2.2.2.2.2.2.2.2.1
      have h10 := hI.2.2.2.2.2.2.2.2.2.2.2.1
      have h11 := hI.2.2.2.2.2.2.2.2.2.2.2.2.1
      have h12 := hI.2.2.2.2.2.2.2.2.2.2.2.2.2.1
      have h13 := hI.2.2.2.2.2.2.2.2.2.2.2.2.2.2.1
      have h14 := hI.2.2.2.2.2.2.2.2.2.2.2.2.2.2.2.1
      have h15 := hI.2.2.2.2.2.2.2.2.2.2.2.2.2.2.2.2.1
      have h16 := hI.2.2.2.2.2.2.2.2.2.2.2.2.2.2.2.2.2.1
      have h17 := hI.2.2.2.2.2.2.2.2.2.2.2.2.2.2.2.2.2.2.1
      have R := hI.2.2.2.2.2.2.2.2.2.2.2.2.2.2.2.2.2.2.2.1
      have IA := hI.2.2.2.2.2.2.2.2.2.2.2.2.2.2.2.2.2.2.2.2
      clear hI
      exact ⟨andThen HBQ hb, h0, h1, h2, h3, h4, fun _ => rfl, h6, h7, h8, h9, h10, h11, h12, h13, h14, h15, h16, fun h => keepb hb (h17 h), R.elim fun cs h => ⟨cs, h.1, keepb hb h.2⟩, keepb hb IA⟩
    refine Steps.val (k' := 7) (.int .i64 mA) rfl (fun _ => by kernel_rfl) (fun _ => by kernel_rfl) ?_ ?_ ?_
    · intro lv yv WQ hd hI
      have HBQ := hI.1
      have h0 := hI.2.1
      have h1 := hI.2.2.1
      have h2 := hI.2.2.2.1
      have h3 := hI.2.2.2.2.1
      have h4 := hI.2.2.2.2.2.1
      have h5 := hI.2.2.2.2.2.2.1
      have h6 := hI.2.2.2.2.2.2.2.1
      have h7 := hI.2.2.2.2.2.2.2.2.1
      have h8 := hI.2.2.2.2.2.2.2.2.2.1
      have h9 := hI.2.2.2.2.2.2.2.2.2.2.1
      have h10 := hI.2.2.2.2.2.2.2.2.2.2.2.1
      have h11 := hI.2.2.2.2.2.2.2.2.2.2.2.2.1
      have h12 := hI.2.2.2.2.2.2.2.2.2.2.2.2.2.1
      have h13 := hI.2.2.2.2.2.2.2.2.2.2.2.2.2.2.1
      have h14 := hI.2.2.2.2.2.2.2.2.2.2.2.2.2.2.2.1
      have h15 := hI.2.2.2.2.2.2.2.2.2.2.2.2.2.2.2.2.1
      have h16 := hI.2.2.2.2.2.2.2.2.2.2.2.2.2.2.2.2.2.1
      have h17 := hI.2.2.2.2.2.2.2.2.2.2.2.2.2.2.2.2.2.2.1
      have R := hI.2.2.2.2.2.2.2.2.2.2.2.2.2.2.2.2.2.2.2.1
      have IA := hI.2.2.2.2.2.2.2.2.2.2.2.2.2.2.2.2.2.2.2.2
      clear hI
      have d5 := dep_of hd 5 (by kernel_rfl)
      simp only [putAll, Act.put, List.setIfInBounds_toArray, List.set_cons_succ, List.set_cons_zero]
      rw [h5 d5]
      clear h0 h1 h2 h3 h4 h5 h6 h7 h8 h9 h10 h11 h12 h13 h14 h15 h16 h17 R d5 hd
      unfold Oper.quietAt
      go_simp
    · intro lv yv WQ W' hI hb
      have HBQ := hI.1
      have h0 := hI.2.1
      have h1 := hI.2.2.1
      have h2 := hI.2.2.2.1
      have h3 := hI.2.2.2.2.1
      have h4 := hI.2.2.2.2.2.1
      have h5 := hI.2.2.2.2.2.2.1
      have h6 := hI.2.2.2.2.2.2.2.1
      have h7 := hI.2.2.2.2.2.2.2.2.1
      have h8 := hI.2.2.2.2.2.2.2.2.2.1
      have h9 := hI.2.2.2.2.2.2.2.2.2.2.1
      have h10 := hI.2.2.2.2.2.2.2.2.2.2.2.1
      have h11 := hI.2.2.2.2.2.2.2.2.2.2.2.2.1
      have h12 := hI.2.2.2.2.2.2.2.2.2.2.2.2.2.1
      have h13 := hI.2.2.2.2.2.2.2.2.2.2.2.2.2.2.1
      have h14 := hI.2.2.2.2.2.2.2.2.2.2.2.2.2.2.2.1
      have h15 := hI.2.2.2.2.2.2.2.2.2.2.2.2.2.2.2.2.1
      have h16 := hI.2.2.2.2.2.2.2.2.2.2.2.2.2.2.2.2.2.1
      have h17 := hI.2.2.2.2.2.2.2.2.2.2.2.2.2.2.2.2.2.2.1
      have R := hI.2.2.2.2.2.2.2.2.2.2.2.2.2.2.2.2.2.2.2.1
      have IA := hI.2.2.2.2.2.2.2.2.2.2.2.2.2.2.2.2.2.2.2.2
      clear hI
      exact ⟨andThen HBQ hb, h0, h1, h2, h3, h4, h5, fun _ => rfl, h7, h8, h9, h10, h11, h12, h13, h14, h15, h16, fun h => keepb hb (h17 h), R.elim fun cs h => ⟨cs, h.1, keepb hb h.2⟩, keepb hb IA⟩
    refine Steps.val (k' := 8) (.int .i64 cl) rfl (fun _ => by kernel_rfl) (fun _ => by kernel_rfl) ?_ ?_ ?_
    · intro lv yv WQ hd hI
      have HBQ := hI.1
      have h0 := hI.2.1
      have h1 := hI.2.2.1
      have h2 := hI.2.2.2.1
      have h3 := hI.2.2.2.2.1
      have h4 := hI.2.2.2.2.2.1
      have h5 := hI.2.2.2.2.2.2.1
      have h6 := hI.2.2.2.2.2.2.2.1
      have h7 := hI.2.2.2.2.2.2.2.2.1
      have h8 := hI.2.2.2.2.2.2.2.2.2.1
      have h9 := hI.2.2.2.2.2.2.2.2.2.2.1
      have h10 := hI.2.2.2.2.2.2.2.2.2.2.2.1
      have h11 := hI.2.2.2.2.2.2.2.2.2.2.2.2.1
      have h12 := hI.2.2.2.2.2.2.2.2.2.2.2.2.2.1
      have h13 := hI.2.2.2.2.2.2.2.2.2.2.2.2.2.2.1
      have h14 := hI.2.2.2.2.2.2.2.2.2.2.2.2.2.2.2.1
      have h15 := hI.2.2.2.2.2.2.2.2.2.2.2.2.2.2.2.2.1
      have h16 := hI.2.2.2.2.2.2.2.2.2.2.2.2.2.2.2.2.2.1
      have h17 := hI.2.2.2.2.2.2.2.2.2.2.2.2.2.2.2.2.2.2.1
      have R := hI.2.2.2.2.2.2.2.2.2.2.2.2.2.2.2.2.2.2.2.1
      have IA := hI.2.2.2.2.2.2.2.2.2.2.2.2.2.2.2.2.2.2.2.2
      clear hI
      have d6 := dep_of hd 6 (by kernel_rfl)
      simp only [putAll, Act.put, List.setIfInBounds_toArray, List.set_cons_succ, List.set_cons_zero]
      rw [h6 d6]
      clear h0 h1 h2 h3 h4 h5 h6 h7 h8 h9 h10 h11 h12 h13 h14 h15 h16 h17 R d6 hd
      unfold Oper.quietAt
      go_simp
      exact (CD2.out WQ).mono (fun e w' h => ⟨h.1, by rw [← h.2]; exact Below.refl _ _⟩)
    · intro lv yv WQ W' hI hb
      have HBQ := hI.1
      have h0 := hI.2.1
      have h1 := hI.2.2.1
      have h2 := hI.2.2.2.1
      have h3 := hI.2.2.2.2.1
      have h4 := hI.2.2.2.2.2.1
      have h5 := hI.2.2.2.2.2.2.1
      have h6 := hI.2.2.2.2.2.2.2.1
      have h7 := hI.2.2.2.2.2.2.2.2.1
      have h8 := hI.2.2.2.2.2.2.2.2.2.1
      have h9 := hI.2.2.2.2.2.2.2.2.2.2.1
      have h10 := hI.2.2.2.2.2.2.2.2.2.2.2.1
      have h11 := hI.2.2.2.2.2.2.2.2.2.2.2.2.1
      have h12 := hI.2.2.2.2.2.2.2.2.2.2.2.2.2.1
      have h13 := hI.2.2.2.2.2.2.2.2.2.2.2.2.2.2.1
      have h14 := hI.2.2.2.2.2.2.2.2.2.2.2.2.2.2.2.1
      have h15 := hI.2.2.2.2.2.2.2.2.2.2.2.2.2.2.2.2.1
      have h16 := hI.2.2.2.2.2.2.2.2.2.2.2.2.2.2.2.2.2.1
      have h17 := hI.2.2.2.2.2.2.2.2.2.2.2.2.2.2.2.2.2.2.1
      have R := hI.2.2.2.2.2.2.2.2.2.2.2.2.2.2.2.2.2.2.2.1
      have IA := hI.2.2.2.2.2.2.2.2.2.2.2.2.2.2.2.2.2.2.2.2
      clear hI
      exact ⟨andThen HBQ hb, h0, h1, h2, h3, h4, h5, h6, fun _ => rfl, h8, h9, h10, h11, h12, h13, h14, h15, h16, fun h => keepb hb (h17 h), R.elim fun cs h => ⟨cs, h.1, keepb hb h.2⟩, keepb hb IA⟩
    refine Steps.val (k' := 9) (.int .i64 all) rfl (fun _ => by kernel_rfl) (fun _ => by kernel_rfl) ?_ ?_ ?_
    · intro lv yv WQ hd hI
      have HBQ := hI.1
      have h0 := hI.2.1
      have h1 := hI.2.2.1
      have h2 := hI.2.2.2.1
      have h3 := hI.2.2.2.2.1
      have h4 := hI.2.2.2.2.2.1
      have h5 := hI.2.2.2.2.2.2.1
      have h6 := hI.2.2.2.2.2.2.2.1
      have h7 := hI.2.2.2.2.2.2.2.2.1
      have h8 := hI.2.2.2.2.2.2.2.2.2.1
      have h9 := hI.2.2.2.2.2.2.2.2.2.2.1
      have h10 := hI.2.2.2.2.2.2.2.2.2.2.2.1
      have h11 := hI.2.2.2.2.2.2.2.2.2.2.2.2.1
      have h12 := hI.2.2.2.2.2.2.2.2.2.2.2.2.2.1
      have h13 := hI.2.2.2.2.2.2.2.2.2.2.2.2.2.2.1
      have h14 := hI.2.2.2.2.2.2.2.2.2.2.2.2.2.2.2.1
      have h15 := hI.2.2.2.2.2.2.2.2.2.2.2.2.2.2.2.2.1
      have h16 := hI.2.2.2.2.2.2.2.2.2.2.2.2.2.2.2.2.2.1
      have h17 := hI.2.2.2.2.2.2.2.2.2.2.2.2.2.2.2.2.2.2.1
      have R := hI.2.2.2.2.2.2.2.2.2.2.2.2.2.2.2.2.2.2.2.1
      have IA := hI.2.2.2.2.2.2.2.2.2.2.2.2.2.2.2.2.2.2.2.2
      clear hI
      simp only [putAll, Act.put, List.setIfInBounds_toArray, List.set_cons_succ, List.set_cons_zero]
      clear h0 h1 h2 h3 h4 h5 h6 h7 h8 h9 h10 h11 h12 h13 h14 h15 h16 h17 R hd
      unfold Oper.quietAt
      go_simp
    · intro lv yv WQ W' hI hb
      have HBQ := hI.1
      have h0 := hI.2.1
      have h1 := hI.2.2.1
      have h2 := hI.2.2.2.1
      have h3 := hI.2.2.2.2.1
      have h4 := hI.2.2.2.2.2.1
      have h5 := hI.2.2.2.2.2.2.1
      have h6 := hI.2.2.2.2.2.2.2.1
      have h7 := hI.2.2.2.2.2.2.2.2.1
      have h8 := hI.2.2.2.2.2.2.2.2.2.1
      have h9 := hI.2.2.2.2.2.2.2.2.2.2.1
      have h10 := hI.2.2.2.2.2.2.2.2.2.2.2.1
      have h11 := hI.2.2.2.2.2.2.2.2.2.2.2.2.1
      have h12 := hI.2.2.2.2.2.2.2.2.2.2.2.2.2.1
      have h13 := hI.2.2.2.2.2.2.2.2.2.2.2.2.2.2.1
      have h14 := hI.2.2.2.2.2.2.2.2.2.2.2.2.2.2.2.1
      have h15 := hI.2.2.2.2.2.2.2.2.2.2.2.2.2.2.2.2.1
      have h16 := hI.2.2.2.2.2.2.2.2.2.2.2.2.2.2.2.2.2.1
      have h17 := hI.2.2.2.2.2.2.2.2.2.2.2.2.2.2.2.2.2.2.1
      have R := hI.2.2.2.2.2.2.2.2.2.2.2.2.2.2.2.2.2.2.2.1
      have IA := hI.2.2.2.2.2.2.2.2.2.2.2.2.2.2.2.2.2.2.2.2
      clear hI
      exact ⟨andThen HBQ hb, h0, h1, h2, h3, h4, h5, h6, h7, fun _ => rfl, h9, h10, h11, h12, h13, h14, h15, h16, fun h => keepb hb (h17 h), R.elim fun cs h => ⟨cs, h.1, keepb hb h.2⟩, keepb hb IA⟩
    refine Steps.val (k' := 10) (.int .i64 l) rfl (fun _ => by kernel_rfl) (fun _ => by kernel_rfl) ?_ ?_ ?_
    · intro lv yv WQ hd hI
      have HBQ := hI.1
      have h0 := hI.2.1
      have h1 := hI.2.2.1
      have h2 := hI.2.2.2.1
      have h3 := hI.2.2.2.2.1
      have h4 := hI.2.2.2.2.2.1
      have h5 := hI.2.2.2.2.2.2.1
      have h6 := hI.2.2.2.2.2.2.2.1
      have h7 := hI.2.2.2.2.2.2.2.2.1
      have h8 := hI.2.2.2.2.2.2.2.2.2.1
      have h9 := hI.2.2.2.2.2.2.2.2.2.2.1
      have h10 := hI.2.2.2.2.2.2.2.2.2.2.2.1
      have h11 := hI.2.2.2.2.2.2.2.2.2.2.2.2.1
      have h12 := hI.2.2.2.2.2.2.2.2.2.2.2.2.2.1
      have h13 := hI.2.2.2.2.2.2.2.2.2.2.2.2.2.2.1
      have h14 := hI.2.2.2.2.2.2.2.2.2.2.2.2.2.2.2.1
      have h15 := hI.2.2.2.2.2.2.2.2.2.2.2.2.2.2.2.2.1
      have h16 := hI.2.2.2.2.2.2.2.2.2.2.2.2.2.2.2.2.2.1
      have h17 := hI.2.2.2.2.2.2.2.2.2.2.2.2.2.2.2.2.2.2.1
      have R := hI.2.2.2.2.2.2.2.2.2.2.2.2.2.2.2.2.2.2.2.1
      have IA := hI.2.2.2.2.2.2.2.2.2.2.2.2.2.2.2.2.2.2.2.2
      clear hI
      simp only [putAll, Act.put, List.setIfInBounds_toArray, List.set_cons_succ, List.set_cons_zero]
      clear h0 h1 h2 h3 h4 h5 h6 h7 h8 h9 h10 h11 h12 h13 h14 h15 h16 h17 R hd
      unfold Oper.quietAt
      go_simp
    · intro lv yv WQ W' hI hb
      have HBQ := hI.1
      have h0 := hI.2.1
      have h1 := hI.2.2.1
      have h2 := hI.2.2.2.1
      have h3 := hI.2.2.2.2.1
      have h4 := hI.2.2.2.2.2.1
      have h5 := hI.2.2.2.2.2.2.1
      have h6 := hI.2.2.2.2.2.2.2.1
      have h7 := hI.2.2.2.2.2.2.2.2.1
      have h8 := hI.2.2.2.2.2.2.2.2.2.1
      have h9 := hI.2.2.2.2.2.2.2.2.2.2.1
      have h10 := hI.2.2.2.2.2.2.2.2.2.2.2.1
      have h11 := hI.2.2.2.2.2.2.2.2.2.2.2.2.1
      have h12 := hI.2.2.2.2.2.2.2.2.2.2.2.2.2.1
      have h13 := hI.2.2.2.2.2.2.2.2.2.2.2.2.2.2.1
      have h14 := hI.2.2.2.2.2.2.2.2.2.2.2.2.2.2.2.1
      have h15 := hI.2.2.2.2.2.2.2.2.2.2.2.2.2.2.2.2.1
      have h16 := hI.2.2.2.2.2.2.2.2.2.2.2.2.2.2.2.2.2.1
      have h17 := hI.2.2.2.2.2.2.2.2.2.2.2.2.2.2.2.2.2.2.1
      have R := hI.2.2.2.2.2.2.2.2.2.2.2.2.2.2.2.2.2.2.2.1
      have IA := hI.2.2.2.2.2.2.2.2.2.2.2.2.2.2.2.2.2.2.2.2
      clear hI
      exact ⟨andThen HBQ hb, h0, h1, h2, h3, h4, h5, h6, h7, h8, fun _ => rfl, h10, h11, h12, h13, h14, h15, h16, fun h => keepb hb (h17 h), R.elim fun cs h => ⟨cs, h.1, keepb hb h.2⟩, keepb hb IA⟩
    refine Steps.val (k' := 11) (.int .i64 l) rfl (fun _ => by kernel_rfl) (fun _ => by kernel_rfl) ?_ ?_ ?_
    · intro lv yv WQ hd hI
      have HBQ := hI.1
      have h0 := hI.2.1
      have h1 := hI.2.2.1
      have h2 := hI.2.2.2.1
      have h3 := hI.2.2.2.2.1
      have h4 := hI.2.2.2.2.2.1
      have h5 := hI.2.2.2.2.2.2.1
      have h6 := hI.2.2.2.2.2.2.2.1
      have h7 := hI.2.2.2.2.2.2.2.2.1
      have h8 := hI.2.2.2.2.2.2.2.2.2.1
      have h9 := hI.2.2.2.2.2.2.2.2.2.2.1
      have h10 := hI.2.2.2.2.2.2.2.2.2.2.2.1
      have h11 := hI.2.2.2.2.2.2.2.2.2.2.2.2.1
      have h12 := hI.2.2.2.2.2.2.2.2.2.2.2.2.2.1
      have h13 := hI.2.2.2.2.2.2.2.2.2.2.2.2.2.2.1
      have h14 := hI.2.2.2.2.2.2.2.2.2.2.2.2.2.2.2.1
      have h15 := hI.2.2.2.2.2.2.2.2.2.2.2.2.2.2.2.2.1
      have h16 := hI.2.2.2.2.2.2.2.2.2.2.2.2.2.2.2.2.2.1
      have h17 := hI.2.2.2.2.2.2.2.2.2.2.2.2.2.2.2.2.2.2.1
      have R := hI.2.2.2.2.2.2.2.2.2.2.2.2.2.2.2.2.2.2.2.1
      have IA := hI.2.2.2.2.2.2.2.2.2.2.2.2.2.2.2.2.2.2.2.2
      clear hI
      simp only [putAll, Act.put, List.setIfInBounds_toArray, List.set_cons_succ, List.set_cons_zero]
      clear h0 h1 h2 h3 h4 h5 h6 h7 h8 h9 h10 h11 h12 h13 h14 h15 h16 h17 R hd
      unfold Oper.quietAt
      go_simp
    · intro lv yv WQ W' hI hb
      have HBQ := hI.1
      have h0 := hI.2.1
      have h1 := hI.2.2.1
      have h2 := hI.2.2.2.1
      have h3 := hI.2.2.2.2.1
      have h4 := hI.2.2.2.2.2.1
      have h5 := hI.2.2.2.2.2.2.1
      have h6 := hI.2.2.2.2.2.2.2.1
      have h7 := hI.2.2.2.2.2.2.2.2.1
      have h8 := hI.2.2.2.2.2.2.2.2.2.1
      have h9 := hI.2.2.2.2.2.2.2.2.2.2.1
      have h10 := hI.2.2.2.2.2.2.2.2.2.2.2.1
      have h11 := hI.2.2.2.2.2.2.2.2.2.2.2.2.1
      have h12 := hI.2.2.2.2.2.2.2.2.2.2.2.2.2.1
      have h13 := hI.2.2.2.2.2.2.2.2.2.2.2.2.2.2.1
      have h14 := hI.2.2.2.2.2.2.2.2.2.2.2.2.2.2.2.1
      have h15 := hI.2.2.2.2.2.2.2.2.2.2.2.2.2.2.2.2.1
      have h16 := hI.2.2.2.2.2.2.2.2.2.2.2.2.2.2.2.2.2.1
      have h17 := hI.2.2.2.2.2.2.2.2.2.2.2.2.2.2.2.2.2.2.1
      have R := hI.2.2.2.2.2.2.2.2.2.2.2.2.2.2.2.2.2.2.2.1
      have IA := hI.2.2.2.2.2.2.2.2.2.2.2.2.2.2.2.2.2.2.2.2
      clear hI
      exact ⟨andThen HBQ hb, h0, h1, h2, h3, h4, h5, h6, h7, h8, h9, fun _ => rfl, h11, h12, h13, h14, h15, h16, fun h => keepb hb (h17 h), R.elim fun cs h => ⟨cs, h.1, keepb hb h.2⟩, keepb hb IA⟩
    refine Steps.val (k' := 12) (.int .i64 ll) rfl (fun _ => by kernel_rfl) (fun _ => by kernel_rfl) ?_ ?_ ?_
    · intro lv yv WQ hd hI
      have HBQ := hI.1
      have h0 := hI.2.1
      have h1 := hI.2.2.1
      have h2 := hI.2.2.2.1
      have h3 := hI.2.2.2.2.1
      have h4 := hI.2.2.2.2.2.1
      have h5 := hI.2.2.2.2.2.2.1
      have h6 := hI.2.2.2.2.2.2.2.1
      have h7 := hI.2.2.2.2.2.2.2.2.1
      have h8 := hI.2.2.2.2.2.2.2.2.2.1
      have h9 := hI.2.2.2.2.2.2.2.2.2.2.1
      have h10 := hI.2.2.2.2.2.2.2.2.2.2.2.1
      have h11 := hI.2.2.2.2.2.2.2.2.2.2.2.2.1
      have h12 := hI.2.2.2.2.2.2.2.2.2.2.2.2.2.1
      have h13 := hI.2.2.2.2.2.2.2.2.2.2.2.2.2.2.1
      have h14 := hI.2.2.2.2.2.2.2.2.2.2.2.2.2.2.2.1
      have h15 := hI.2.2.2.2.2.2.2.2.2.2.2.2.2.2.2.2.1
      have h16 := hI.2.2.2.2.2.2.2.2.2.2.2.2.2.2.2.2.2.1
      have h17 := hI.2.2.2.2.2.2.2.2.2.2.2.2.2.2.2.2.2.2.1
      have R := hI.2.2.2.2.2.2.2.2.2.2.2.2.2.2.2.2.2.2.2.1
      have IA := hI.2.2.2.2.2.2.2.2.2.2.2.2.2.2.2.2.2.2.2.2
      clear hI
      have d9 := dep_of hd 9 (by kernel_rfl)
      have d10 := dep_of hd 10 (by kernel_rfl)
      simp only [putAll, Act.put, List.setIfInBounds_toArray, List.set_cons_succ, List.set_cons_zero]
      rw [h9 d9, h10 d10]
      clear h0 h1 h2 h3 h4 h5 h6 h7 h8 h9 h10 h11 h12 h13 h14 h15 h16 h17 R d9 d10 hd
      unfold Oper.quietAt
      go_simp
    · intro lv yv WQ W' hI hb
      have HBQ := hI.1
      have h0 := hI.2.1
      have h1 := hI.2.2.1
      have h2 := hI.2.2.2.1
      have h3 := hI.2.2.2.2.1
      have h4 := hI.2.2.2.2.2.1
      have h5 := hI.2.2.2.2.2.2.1
      have h6 := hI.2.2.2.2.2.2.2.1
      have h7 := hI.2.2.2.2.2.2.2.2.1
      have h8 := hI.2.2.2.2.2.2.2.2.2.1
      have h9 := hI.2.2.2.2.2.2.2.2.2.2.1
      have h10 := hI.2.2.2.2.2.2.2.2.2.2.2.1
      have h11 := hI.2.2.2.2.2.2.2.2.2.2.2.2.1
      have h12 := hI.2.2.2.2.2.2.2.2.2.2.2.2.2.1
      have h13 := hI.2.2.2.2.2.2.2.2.2.2.2.2.2.2.1
      have h14 := hI.2.2.2.2.2.2.2.2.2.2.2.2.2.2.2.1
      have h15 := hI.2.2.2.2.2.2.2.2.2.2.2.2.2.2.2.2.1
      have h16 := hI.2.2.2.2.2.2.2.2.2.2.2.2.2.2.2.2.2.1
      have h17 := hI.2.2.2.2.2.2.2.2.2.2.2.2.2.2.2.2.2.2.1
      have R := hI.2.2.2.2.2.2.2.2.2.2.2.2.2.2.2.2.2.2.2.1
      have IA := hI.2.2.2.2.2.2.2.2.2.2.2.2.2.2.2.2.2.2.2.2
      clear hI
      exact ⟨andThen HBQ hb, h0, h1, h2, h3, h4, h5, h6, h7, h8, h9, h10, fun _ => rfl, h12, h13, h14, h15, h16, fun h => keepb hb (h17 h), R.elim fun cs h => ⟨cs, h.1, keepb hb h.2⟩, keepb hb IA⟩
    refine Steps.val (k' := 13) (.int .i64 mb) rfl (fun _ => by kernel_rfl) (fun _ => by kernel_rfl) ?_ ?_ ?_
    · intro lv yv WQ hd hI
      have HBQ := hI.1
      have h0 := hI.2.1
      have h1 := hI.2.2.1
      have h2 := hI.2.2.2.1
      have h3 := hI.2.2.2.2.1
      have h4 := hI.2.2.2.2.2.1
      have h5 := hI.2.2.2.2.2.2.1
      have h6 := hI.2.2.2.2.2.2.2.1
      have h7 := hI.2.2.2.2.2.2.2.2.1
      have h8 := hI.2.2.2.2.2.2.2.2.2.1
      have h9 := hI.2.2.2.2.2.2.2.2.2.2.1
      have h10 := hI.2.2.2.2.2.2.2.2.2.2.2.1
      have h11 := hI.2.2.2.2.2.2.2.2.2.2.2.2.1
      have h12 := hI.2.2.2.2.2.2.2.2.2.2.2.2.2.1
      have h13 := hI.2.2.2.2.2.2.2.2.2.2.2.2.2.2.1
      have h14 := hI.2.2.2.2.2.2.2.2.2.2.2.2.2.2.2.1
      have h15 := hI.2.2.2.2.2.2.2.2.2.2.2.2.2.2.2.2.1
      have h16 := hI.2.2.2.2.2.2.2.2.2.2.2.2.2.2.2.2.2.1
      have h17 := hI.2.2.2.2.2.2.2.2.2.2.2.2.2.2.2.2.2.2.1
      have R := hI.2.2.2.2.2.2.2.2.2.2.2.2.2.2.2.2.2.2.2.1
      have IA := hI.2.2.2.2.2.2.2.2.2.2.2.2.2.2.2.2.2.2.2.2
      clear hI
      have d8 := dep_of hd 8 (by kernel_rfl)
      have d11 := dep_of hd 11 (by kernel_rfl)
      simp only [putAll, Act.put, List.setIfInBounds_toArray, List.set_cons_succ, List.set_cons_zero]
      rw [h8 d8, h11 d11]
      clear h0 h1 h2 h3 h4 h5 h6 h7 h8 h9 h10 h11 h12 h13 h14 h15 h16 h17 R d8 d11 hd
      unfold Oper.quietAt
      go_simp
    · intro lv yv WQ W' hI hb
      have HBQ := hI.1
      have h0 := hI.2.1
      have h1 := hI.2.2.1
      have h2 := hI.2.2.2.1
      have h3 := hI.2.2.2.2.1
      have h4 := hI.2.2.2.2.2.1
      have h5 := hI.2.2.2.2.2.2.1
      have h6 := hI.2.2.2.2.2.2.2.1
      have h7 := hI.2.2.2.2.2.2.2.2.1
      have h8 := hI.2.2.2.2.2.2.2.2.2.1
      have h9 := hI.2.2.2.2.2.2.2.2.2.2.1
      have h10 := hI.2.2.2.2.2.2.2.2.2.2.2.1
      have h11 := hI.2.2.2.2.2.2.2.2.2.2.2.2.1
      have h12 := hI.2.2.2.2.2.2.2.2.2.2.2.2.2.1
      have h13 := hI.2.2.2.2.2.2.2.2.2.2.2.2.2.2.1
      have h14 := hI.2.2.2.2.2.2.2.2.2.2.2.2.2.2.2.1
      have h15 := hI.2.2.2.2.2.2.2.2.2.2.2.2.2.2.2.2.1
      have h16 := hI.2.2.2.2.2.2.2.2.2.2.2.2.2.2.2.2.2.1
      have h17 := hI.2.2.2.2.2.2.2.2.2.2.2.2.2.2.2.2.2.2.1
      have R := hI.2.2.2.2.2.2.2.2.2.2.2.2.2.2.2.2.2.2.2.1
      have IA := hI.2.2.2.2.2.2.2.2.2.2.2.2.2.2.2.2.2.2.2.2
      clear hI
      exact ⟨andThen HBQ hb, h0, h1, h2, h3, h4, h5, h6, h7, h8, h9, h10, h11, fun _ => rfl, h13, h14, h15, h16, fun h => keepb hb (h17 h), R.elim fun cs h => ⟨cs, h.1, keepb hb h.2⟩, keepb hb IA⟩
    refine Steps.val (k' := 14) (.int .i64 mB) rfl (fun _ => by kernel_rfl) (fun _ => by kernel_rfl) ?_ ?_ ?_
    · intro lv yv WQ hd hI
      have HBQ := hI.1
      have h0 := hI.2.1
      have h1 := hI.2.2.1
      have h2 := hI.2.2.2.1
      have h3 := hI.2.2.2.2.1
      have h4 := hI.2.2.2.2.2.1
      have h5 := hI.2.2.2.2.2.2.1
      have h6 := hI.2.2.2.2.2.2.2.1
      have h7 := hI.2.2.2.2.2.2.2.2.1
      have h8 := hI.2.2.2.2.2.2.2.2.2.1
      have h9 := hI.2.2.2.2.2.2.2.2.2.2.1
      have h10 := hI.2.2.2.2.2.2.2.2.2.2.2.1
      have h11 := hI.2.2.2.2.2.2.2.2.2.2.2.2.1
      have h12 := hI.2.2.2.2.2.2.2.2.2.2.2.2.2.1
      have h13 := hI.2.2.2.2.2.2.2.2.2.2.2.2.2.2.1
      have h14 := hI.2.2.2.2.2.2.2.2.2.2.2.2.2.2.2.1
      have h15 := hI.2.2.2.2.2.2.2.2.2.2.2.2.2.2.2.2.1
      have h16 := hI.2.2.2.2.2.2.2.2.2.2.2.2.2.2.2.2.2.1
      have h17 := hI.2.2.2.2.2.2.2.2.2.2.2.2.2.2.2.2.2.2.1
      have R := hI.2.2.2.2.2.2.2.2.2.2.2.2.2.2.2.2.2.2.2.1
      have IA := hI.2.2.2.2.2.2.2.2.2.2.2.2.2.2.2.2.2.2.2.2
      clear hI
      have d12 := dep_of hd 12 (by kernel_rfl)
      simp only [putAll, Act.put, List.setIfInBounds_toArray, List.set_cons_succ, List.set_cons_zero]
      rw [h12 d12]
      clear h0 h1 h2 h3 h4 h5 h6 h7 h8 h9 h10 h11 h12 h13 h14 h15 h16 h17 R d12 hd
      unfold Oper.quietAt
      go_simp
    · intro lv yv WQ W' hI hb
      have HBQ := hI.1
      have h0 := hI.2.1
      have h1 := hI.2.2.1
      have h2 := hI.2.2.2.1
      have h3 := hI.2.2.2.2.1
      have h4 := hI.2.2.2.2.2.1
      have h5 := hI.2.2.2.2.2.2.1
      have h6 := hI.2.2.2.2.2.2.2.1
      have h7 := hI.2.2.2.2.2.2.2.2.1
      have h8 := hI.2.2.2.2.2.2.2.2.2.1
      have h9 := hI.2.2.2.2.2.2.2.2.2.2.1
      have h10 := hI.2.2.2.2.2.2.2.2.2.2.2.1
      have h11 := hI.2.2.2.2.2.2.2.2.2.2.2.2.1
      have h12 := hI.2.2.2.2.2.2.2.2.2.2.2.2.2.1
      have h13 := hI.2.2.2.2.2.2.2.2.2.2.2.2.2.2.1
      have h14 := hI.2.2.2.2.2.2.2.2.2.2.2.2.2.2.2.1
      have h15 := hI.2.2.2.2.2.2.2.2.2.2.2.2.2.2.2.2.1
      have h16 := hI.2.2.2.2.2.2.2.2.2.2.2.2.2.2.2.2.2.1
      have h17 := hI.2.2.2.2.2.2.2.2.2.2.2.2.2.2.2.2.2.2.1
      have R := hI.2.2.2.2.2.2.2.2.2.2.2.2.2.2.2.2.2.2.2.1
      have IA := hI.2.2.2.2.2.2.2.2.2.2.2.2.2.2.2.2.2.2.2.2
      clear hI
      exact ⟨andThen HBQ hb, h0, h1, h2, h3, h4, h5, h6, h7, h8, h9, h10, h11, h12, fun _ => rfl, h14, h15, h16, fun h => keepb hb (h17 h), R.elim fun cs h => ⟨cs, h.1, keepb hb h.2⟩, keepb hb IA⟩
    refine Steps.val (k' := 15) (.int .i64 ch) rfl (fun _ => by kernel_rfl) (fun _ => by kernel_rfl) ?_ ?_ ?_
    · intro lv yv WQ hd hI
      have HBQ := hI.1
      have h0 := hI.2.1
      have h1 := hI.2.2.1
      have h2 := hI.2.2.2.1
      have h3 := hI.2.2.2.2.1
      have h4 := hI.2.2.2.2.2.1
      have h5 := hI.2.2.2.2.2.2.1
      have h6 := hI.2.2.2.2.2.2.2.1
      have h7 := hI.2.2.2.2.2.2.2.2.1
      have h8 := hI.2.2.2.2.2.2.2.2.2.1
      have h9 := hI.2.2.2.2.2.2.2.2.2.2.1
      have h10 := hI.2.2.2.2.2.2.2.2.2.2.2.1
      have h11 := hI.2.2.2.2.2.2.2.2.2.2.2.2.1
      have h12 := hI.2.2.2.2.2.2.2.2.2.2.2.2.2.1
      have h13 := hI.2.2.2.2.2.2.2.2.2.2.2.2.2.2.1
      have h14 := hI.2.2.2.2.2.2.2.2.2.2.2.2.2.2.2.1
      have h15 := hI.2.2.2.2.2.2.2.2.2.2.2.2.2.2.2.2.1
      have h16 := hI.2.2.2.2.2.2.2.2.2.2.2.2.2.2.2.2.2.1
      have h17 := hI.2.2.2.2.2.2.2.2.2.2.2.2.2.2.2.2.2.2.1
      have R := hI.2.2.2.2.2.2.2.2.2.2.2.2.2.2.2.2.2.2.2.1
      have IA := hI.2.2.2.2.2.2.2.2.2.2.2.2.2.2.2.2.2.2.2.2
      clear hI
      have d13 := dep_of hd 13 (by kernel_rfl)
      simp only [putAll, Act.put, List.setIfInBounds_toArray, List.set_cons_succ, List.set_cons_zero]
      rw [h13 d13]
      clear h0 h1 h2 h3 h4 h5 h6 h7 h8 h9 h10 h11 h12 h13 h14 h15 h16 h17 R d13 hd
      unfold Oper.quietAt
      go_simp
      exact (CU2.out WQ).mono (fun e w' h => ⟨h.1, by rw [← h.2]; exact Below.refl _ _⟩)
    · intro lv yv WQ W' hI hb
      have HBQ := hI.1
      have h0 := hI.2.1
      have h1 := hI.2.2.1
      have h2 := hI.2.2.2.1
      have h3 := hI.2.2.2.2.1
      have h4 := hI.2.2.2.2.2.1
      have h5 := hI.2.2.2.2.2.2.1
      have h6 := hI.2.2.2.2.2.2.2.1
      have h7 := hI.2.2.2.2.2.2.2.2.1
      have h8 := hI.2.2.2.2.2.2.2.2.2.1
      have h9 := hI.2.2.2.2.2.2.2.2.2.2.1
      have h10 := hI.2.2.2.2.2.2.2.2.2.2.2.1
      have h11 := hI.2.2.2.2.2.2.2.2.2.2.2.2.1
      have h12 := hI.2.2.2.2.2.2.2.2.2.2.2.2.2.1
      have h13 := hI.2.2.2.2.2.2.2.2.2.2.2.2.2.2.1
      have h14 := hI.2.2.2.2.2.2.2.2.2.2.2.2.2.2.2.1
      have h15 := hI.2.2.2.2.2.2.2.2.2.2.2.2.2.2.2.2.1
      have h16 := hI.2.2.2.2.2.2.2.2.2.2.2.2.2.2.2.2.2.1
      have h17 := hI.2.2.2.2.2.2.2.2.2.2.2.2.2.2.2.2.2.2.1
      have R := hI.2.2.2.2.2.2.2.2.2.2.2.2.2.2.2.2.2.2.2.1
      have IA := hI.2.2.2.2.2.2.2.2.2.2.2.2.2.2.2.2.2.2.2.2
      clear hI
      exact ⟨andThen HBQ hb, h0, h1, h2, h3, h4, h5, h6, h7, h8, h9, h10, h11, h12, h13, fun _ => rfl, h15, h16, fun h => keepb hb (h17 h), R.elim fun cs h => ⟨cs, h.1, keepb hb h.2⟩, keepb hb IA⟩
    refine Steps.val (k' := 16) (.agg #[.int .i64 cl, .int .i64 ch]) rfl (fun _ => by kernel_rfl) (fun _ => by kernel_rfl) ?_ ?_ ?_
    · intro lv yv WQ hd hI
      have HBQ := hI.1
      have h0 := hI.2.1
      have h1 := hI.2.2.1
      have h2 := hI.2.2.2.1
      have h3 := hI.2.2.2.2.1
      have h4 := hI.2.2.2.2.2.1
      have h5 := hI.2.2.2.2.2.2.1
      have h6 := hI.2.2.2.2.2.2.2.1
      have h7 := hI.2.2.2.2.2.2.2.2.1
      have h8 := hI.2.2.2.2.2.2.2.2.2.1
      have h9 := hI.2.2.2.2.2.2.2.2.2.2.1
      have h10 := hI.2.2.2.2.2.2.2.2.2.2.2.1
      have h11 := hI.2.2.2.2.2.2.2.2.2.2.2.2.1
      have h12 := hI.2.2.2.2.2.2.2.2.2.2.2.2.2.1
      have h13 := hI.2.2.2.2.2.2.2.2.2.2.2.2.2.2.1
      have h14 := hI.2.2.2.2.2.2.2.2.2.2.2.2.2.2.2.1
      have h15 := hI.2.2.2.2.2.2.2.2.2.2.2.2.2.2.2.2.1
      have h16 := hI.2.2.2.2.2.2.2.2.2.2.2.2.2.2.2.2.2.1
      have h17 := hI.2.2.2.2.2.2.2.2.2.2.2.2.2.2.2.2.2.2.1
      have R := hI.2.2.2.2.2.2.2.2.2.2.2.2.2.2.2.2.2.2.2.1
      have IA := hI.2.2.2.2.2.2.2.2.2.2.2.2.2.2.2.2.2.2.2.2
      clear hI
      have d7 := dep_of hd 7 (by kernel_rfl)
      have d14 := dep_of hd 14 (by kernel_rfl)
      simp only [putAll, Act.put, List.setIfInBounds_toArray, List.set_cons_succ, List.set_cons_zero]
      rw [h7 d7, h14 d14]
      clear h0 h1 h2 h3 h4 h5 h6 h7 h8 h9 h10 h11 h12 h13 h14 h15 h16 h17 R d7 d14 hd
      unfold Oper.quietAt
      go_simp
    · intro lv yv WQ W' hI hb
      have HBQ := hI.1
      have h0 := hI.2.1
      have h1 := hI.2.2.1
      have h2 := hI.2.2.2.1
      have h3 := hI.2.2.2.2.1
      have h4 := hI.2.2.2.2.2.1
      have h5 := hI.2.2.2.2.2.2.1
      have h6 := hI.2.2.2.2.2.2.2.1
      have h7 := hI.2.2.2.2.2.2.2.2.1
      have h8 := hI.2.2.2.2.2.2.2.2.2.1
      have h9 := hI.2.2.2.2.2.2.2.2.2.2.1
      have h10 := hI.2.2.2.2.2.2.2.2.2.2.2.1
      have h11 := hI.2.2.2.2.2.2.2.2.2.2.2.2.1
      have h12 := hI.2.2.2.2.2.2.2.2.2.2.2.2.2.1
      have h13 := hI.2.2.2.2.2.2.2.2.2.2.2.2.2.2.1
      have h14 := hI.2.2.2.2.2.2.2.2.2.2.2.2.2.2.2.1
      have h15 := hI.2.2.2.2.2.2.2.2.2.2.2.2.2.2.2.2.1
      have h16 := hI.2.2.2.2.2.2.2.2.2.2.2.2.2.2.2.2.2.1
      have h17 := hI.2.2.2.2.2.2.2.2.2.2.2.2.2.2.2.2.2.2.1
      have R := hI.2.2.2.2.2.2.2.2.2.2.2.2.2.2.2.2.2.2.2.1
      have IA := hI.2.2.2.2.2.2.2.2.2.2.2.2.2.2.2.2.2.2.2.2
      clear hI
      exact ⟨andThen HBQ hb, h0, h1, h2, h3, h4, h5, h6, h7, h8, h9, h10, h11, h12, h13, h14, fun _ => rfl, h16, fun h => keepb hb (h17 h), R.elim fun cs h => ⟨cs, h.1, keepb hb h.2⟩, keepb hb IA⟩
    refine Steps.val (k' := 17) (.agg #[.int .i64 al, .int .i64 ah, .int .i64 cl, .int .i64 ch]) rfl (fun _ => by kernel_rfl) (fun _ => by kernel_rfl) ?_ ?_ ?_
    · intro lv yv WQ hd hI
      have HBQ := hI.1
      have h0 := hI.2.1
      have h1 := hI.2.2.1
      have h2 := hI.2.2.2.1
      have h3 := hI.2.2.2.2.1
      have h4 := hI.2.2.2.2.2.1
      have h5 := hI.2.2.2.2.2.2.1
      have h6 := hI.2.2.2.2.2.2.2.1
      have h7 := hI.2.2.2.2.2.2.2.2.1
      have h8 := hI.2.2.2.2.2.2.2.2.2.1
      have h9 := hI.2.2.2.2.2.2.2.2.2.2.1
      have h10 := hI.2.2.2.2.2.2.2.2.2.2.2.1
      have h11 := hI.2.2.2.2.2.2.2.2.2.2.2.2.1
      have h12 := hI.2.2.2.2.2.2.2.2.2.2.2.2.2.1
      have h13 := hI.2.2.2.2.2.2.2.2.2.2.2.2.2.2.1
      have h14 := hI.2.2.2.2.2.2.2.2.2.2.2.2.2.2.2.1
      have h15 := hI.2.2.2.2.2.2.2.2.2.2.2.2.2.2.2.2.1
      have h16 := hI.2.2.2.2.2.2.2.2.2.2.2.2.2.2.2.2.2.1
      have h17 := hI.2.2.2.2.2.2.2.2.2.2.2.2.2.2.2.2.2.2.1
      have R := hI.2.2.2.2.2.2.2.2.2.2.2.2.2.2.2.2.2.2.2.1
      have IA := hI.2.2.2.2.2.2.2.2.2.2.2.2.2.2.2.2.2.2.2.2
      clear hI
      have d0 := dep_of hd 0 (by kernel_rfl)
      have d15 := dep_of hd 15 (by kernel_rfl)
      simp only [putAll, Act.put, List.setIfInBounds_toArray, List.set_cons_succ, List.set_cons_zero]
      rw [h0 d0, h15 d15]
      clear h0 h1 h2 h3 h4 h5 h6 h7 h8 h9 h10 h11 h12 h13 h14 h15 h16 h17 R d0 d15 hd
      unfold Oper.quietAt
      go_simp
    · intro lv yv WQ W' hI hb
      have HBQ := hI.1
      have h0 := hI.2.1
      have h1 := hI.2.2.1
      have h2 := hI.2.2.2.1
      have h3 := hI.2.2.2.2.1
      have h4 := hI.2.2.2.2.2.1
      have h5 := hI.2.2.2.2.2.2.1
      have h6 := hI.2.2.2.2.2.2.2.1
      have h7 := hI.2.2.2.2.2.2.2.2.1
      have h8 := hI.2.2.2.2.2.2.2.2.2.1
      have h9 := hI.2.2.2.2.2.2.2.2.2.2.1
      have h10 := hI.2.2.2.2.2.2.2.2.2.2.2.1
      have h11 := hI.2.2.2.2.2.2.2.2.2.2.2.2.1
      have h12 := hI.2.2.2.2.2.2.2.2.2.2.2.2.2.1
      have h13 := hI.2.2.2.2.2.2.2.2.2.2.2.2.2.2.1
      have h14 := hI.2.2.2.2.2.2.2.2.2.2.2.2.2.2.2.1
      have h15 := hI.2.2.2.2.2.2.2.2.2.2.2.2.2.2.2.2.1
      have h16 := hI.2.2.2.2.2.2.2.2.2.2.2.2.2.2.2.2.2.1
      have h17 := hI.2.2.2.2.2.2.2.2.2.2.2.2.2.2.2.2.2.2.1
      have R := hI.2.2.2.2.2.2.2.2.2.2.2.2.2.2.2.2.2.2.2.1
      have IA := hI.2.2.2.2.2.2.2.2.2.2.2.2.2.2.2.2.2.2.2.2
      clear hI
      exact ⟨andThen HBQ hb, h0, h1, h2, h3, h4, h5, h6, h7, h8, h9, h10, h11, h12, h13, h14, h15, fun _ => rfl, fun h => keepb hb (h17 h), R.elim fun cs h => ⟨cs, h.1, keepb hb h.2⟩, keepb hb IA⟩
    refine Steps.sto (k' := 18) rfl (fun _ => by kernel_rfl) rfl ?_ ?_
    · intro lv yv WQ hd hI
      have HBQ := hI.1
      have h0 := hI.2.1
      have h1 := hI.2.2.1
      have h2 := hI.2.2.2.1
      have h3 := hI.2.2.2.2.1
      have h4 := hI.2.2.2.2.2.1
      have h5 := hI.2.2.2.2.2.2.1
      have h6 := hI.2.2.2.2.2.2.2.1
      have h7 := hI.2.2.2.2.2.2.2.2.1
      have h8 := hI.2.2.2.2.2.2.2.2.2.1
      have h9 := hI.2.2.2.2.2.2.2.2.2.2.1
      have h10 := hI.2.2.2.2.2.2.2.2.2.2.2.1
      have h11 := hI.2.2.2.2.2.2.2.2.2.2.2.2.1
      have h12 := hI.2.2.2.2.2.2.2.2.2.2.2.2.2.1
      have h13 := hI.2.2.2.2.2.2.2.2.2.2.2.2.2.2.1
      have h14 := hI.2.2.2.2.2.2.2.2.2.2.2.2.2.2.2.1
      have h15 := hI.2.2.2.2.2.2.2.2.2.2.2.2.2.2.2.2.1
      have h16 := hI.2.2.2.2.2.2.2.2.2.2.2.2.2.2.2.2.2.1
      have h17 := hI.2.2.2.2.2.2.2.2.2.2.2.2.2.2.2.2.2.2.1
      have R := hI.2.2.2.2.2.2.2.2.2.2.2.2.2.2.2.2.2.2.2.1
      have IA := hI.2.2.2.2.2.2.2.2.2.2.2.2.2.2.2.2.2.2.2.2
      clear hI
      have d16 := dep_of hd 16 (by kernel_rfl)
      obtain ⟨cs, hs, hc⟩ := R
      obtain ⟨c0, c1, c2, c3, rfl⟩ := four_of hs
      obtain ⟨⟨zq0, zq1, zq2, zq3⟩, zf0, zf1, zf2, zf3⟩ := quad_cells hc
      refine ⟨((((WQ.setCell ⟨w.heap.size + 1 + 1 + 1, 0, none⟩ (.int .i64 al)).setCell ⟨w.heap.size + 1 + 1 + 1, 1, none⟩ (.int .i64 ah)).setCell ⟨w.heap.size + 1 + 1 + 1, 2, none⟩ (.int .i64 cl)).setCell ⟨w.heap.size + 1 + 1 + 1, 3, none⟩ (.int .i64 ch)), ?_, ?_⟩
      · simp only [putAll, Act.put, List.setIfInBounds_toArray, List.set_cons_succ, List.set_cons_zero]
        rw [h16 d16]
        clear h0 h1 h2 h3 h4 h5 h6 h7 h8 h9 h10 h11 h12 h13 h14 h15 h16 h17 IA hd
        go_simp
      exact ⟨(setC (setC (setC (setC HBQ hle _) hle _) hle _) hle _), h0, h1, h2, h3, h4, h5, h6, h7, h8, h9, h10, h11, h12, h13, h14, h15, h16, fun _ => (set_block (set_block (set_block (set_block hc)))), ⟨_, rfl, (set_block (set_block (set_block (set_block hc))))⟩, (set_other HN15.out (set_other HN15.out (set_other HN15.out (set_other HN15.out IA))))⟩
    exact Steps.nil
  intro lv yv WE hl0 hI
  have hl := Lib.hid hl0
  clear hl0
  have HBQ := hI.1
  have h0 := hI.2.1
  have h1 := hI.2.2.1
  have h2 := hI.2.2.2.1
  have h3 := hI.2.2.2.2.1
  have h4 := hI.2.2.2.2.2.1
  have h5 := hI.2.2.2.2.2.2.1
  have h6 := hI.2.2.2.2.2.2.2.1
  have h7 := hI.2.2.2.2.2.2.2.2.1
  have h8 := hI.2.2.2.2.2.2.2.2.2.1
  have h9 := hI.2.2.2.2.2.2.2.2.2.2.1
  have h10 := hI.2.2.2.2.2.2.2.2.2.2.2.1
  have h11 := hI.2.2.2.2.2.2.2.2.2.2.2.2.1
  have h12 := hI.2.2.2.2.2.2.2.2.2.2.2.2.2.1
  have h13 := hI.2.2.2.2.2.2.2.2.2.2.2.2.2.2.1
  have h14 := hI.2.2.2.2.2.2.2.2.2.2.2.2.2.2.2.1
  have h15 := hI.2.2.2.2.2.2.2.2.2.2.2.2.2.2.2.2.1
  have h16 := hI.2.2.2.2.2.2.2.2.2.2.2.2.2.2.2.2.2.1
  have h17 := hI.2.2.2.2.2.2.2.2.2.2.2.2.2.2.2.2.2.2.1
  have R := hI.2.2.2.2.2.2.2.2.2.2.2.2.2.2.2.2.2.2.2.1
  have IA := hI.2.2.2.2.2.2.2.2.2.2.2.2.2.2.2.2.2.2.2.2
  clear hI
  have HBE := Lib.hid HBQ
  have e0 := h0 (hl.out 0 (by decide))
  have e1 := h1 (hl.out 1 (by decide))
  have e2 := h2 (hl.out 2 (by decide))
  have e3 := h3 (hl.out 3 (by decide))
  have e4 := h4 (hl.out 4 (by decide))
  have e5 := h5 (hl.out 5 (by decide))
  have e6 := h6 (hl.out 6 (by decide))
  have e7 := h7 (hl.out 7 (by decide))
  have e8 := h8 (hl.out 8 (by decide))
  have e9 := h9 (hl.out 9 (by decide))
  have e10 := h10 (hl.out 10 (by decide))
  have e11 := h11 (hl.out 11 (by decide))
  have e12 := h12 (hl.out 12 (by decide))
  have e13 := h13 (hl.out 13 (by decide))
  have e14 := h14 (hl.out 14 (by decide))
  have e15 := h15 (hl.out 15 (by decide))
  have e16 := h16 (hl.out 16 (by decide))
  have HO17 := Lib.hid (h17 (hl.out 17 (by decide)))
  have IAE := Lib.hid IA
  clear hl HBQ h0 h1 h2 h3 h4 h5 h6 h7 h8 h9 h10 h11 h12 h13 h14 h15 h16 h17 R IA
  simp only [putAll, Act.put, List.setIfInBounds_toArray, List.set_cons_succ, List.set_cons_zero]
  rw [e0, e1, e2, e3, e4, e5, e6, e7, e8, e9, e10, e11, e12, e13, e14, e15, e16]
  clear e0 e1 e2 e3 e4 e5 e6 e7 e8 e9 e10 e11 e12 e13 e14 e15 e16
  clear yv lv
  obtain ⟨⟨o0, o1, o2, o3⟩, -, -, -, -⟩ := quad_cells HO17.out
  go_wp2_with fail
  exact bodyPost_ret (v := .agg #[.int .i64 al, .int .i64 ah, .int .i64 cl, .int .i64 ch]) (by simp [results, Try.results15, go_sem, o0, o1, o2, o3]) rfl ⟨rfl, HBE.out⟩
end Go.Proofs.Ytjokfmbknkeeeaa.Orb
