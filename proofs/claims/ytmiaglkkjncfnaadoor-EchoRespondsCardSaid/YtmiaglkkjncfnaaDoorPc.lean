import Derived.Test.YtmiaglkkjncfnaaDoorPb
import Derived.Test.YtmiaglkkjncfnaaDoorOa
import Derived.Deep.RegionHeld3
namespace Go.Proofs.YtmiaglkkjncfnaaDoor
open Go.RowKit Go.Proofs.YtmiaglkkjncfnaaDoor.Flt

/-- a point's response as a value -/
def pointV (pk en a b c d sd : Int) : Value := .agg #[.int .i64 pk, .int .i64 en, .int .i64 a, .int .i64 b, .int .i64 c, .int .i64 d, .int .i64 sd]
def halfP (E : Nat → Int) (en : Int) (_ b : Nat) : Bool := decide (en ≤ 2 * E b)
def lobeP (E : Nat → Int) (a b : Nat) : Bool := decide (E b < E a)
/-- the energies along a line -/
def lineE (zs : List (Nat × Nat)) (S m : Nat) (i : Nat) : Int := enAt zs (m * S + i)
def lineZ (zs : List (Nat × Nat)) (S m : Nat) : List (Nat × Nat) := (zs.drop (m * S)).take S
/-- the response of energies -/
def rspV (E : Nat → Int) (S : Nat) : Value :=
  pointV (bestI E S) (E (bestI E S)) (downTo (halfP E (E (bestI E S))) (bestI E S)) (upFrom (halfP E (E (bestI E S))) S (bestI E S)) (downTo (lobeP E) (bestI E S)) (upFrom (lobeP E) S (bestI E S)) (outMax E (downTo (lobeP E) (bestI E S)) (upFrom (lobeP E) S (bestI E S)) S)

theorem lineZ_length (zs : List (Nat × Nat)) (S m : Nat) (h : m * S + S ≤ zs.length) : (lineZ zs S m).length = S := by
  unfold lineZ
  simp
  omega
theorem lineZ_get (zs : List (Nat × Nat)) (S m i : Nat) (hi : i < S) : (lineZ zs S m).getD i (0, 0) = zs.getD (m * S + i) (0, 0) := by
  unfold lineZ
  rw [List.getD_eq_getElem?_getD, List.getD_eq_getElem?_getD, List.getElem?_take, if_pos hi, List.getElem?_drop]
theorem lineZ_en (zs : List (Nat × Nat)) (S m i : Nat) (hi : i < S) : enAt (lineZ zs S m) i = lineE zs S m i := by
  unfold lineE enAt re im
  rw [lineZ_get zs S m i hi]
theorem lineZ_right {zs : List (Nat × Nat)} {S m : Nat} (R : Right .f64 1000000000 zs) (h : m * S + S ≤ zs.length) : Right .f64 1000000000 (lineZ zs S m) := by
  intro i hi
  rw [lineZ_length zs S m h] at hi
  have := R (m * S + i) (by omega)
  unfold re im at *
  rw [lineZ_get zs S m i hi]
  exact this
theorem lineZ_sl {zs : List (Nat × Nat)} {S m n cap b o : Nat} {W : World} (hs : Sl W (.slice (some ⟨b, o, none⟩) n cap) (cvals .f64 zs)) (hb : b < W.heap.size) (h : m * S + S ≤ zs.length) (h4 : zs.length ≤ 4096) (hS : 1 ≤ S) (hn : n = zs.length) :
    Sl W (.slice (some ⟨b, o + m * S, none⟩) S (cap - m * S)) (cvals .f64 (lineZ zs S m)) := by
  have hcl : (cvals .f64 (lineZ zs S m)).length = S := by unfold cvals; rw [List.length_map]; exact lineZ_length zs S m h
  obtain ⟨-, b1, o1, hbb, q1, g1⟩ := hs.at (by omega)
  cases hbb
  refine ⟨some ⟨b, o + m * S, none⟩, cap - m * S, by rw [hcl], by rw [hcl]; omega, .inr ⟨b, o + m * S, rfl, hb, fun j x hx => ?_⟩⟩
  have hj : j < S := by
    rcases Nat.lt_or_ge j S with h | h
    · exact h
    · rw [List.getElem?_eq_none (by rw [hcl]; exact h)] at hx; cases hx
  rw [Nat.add_assoc]
  refine g1 (m * S + j) x ?_
  rw [← hx]
  unfold cvals lineZ
  rw [List.getElem?_map, List.getElem?_map, List.getElem?_take, if_pos hj, List.getElem?_drop]
theorem outMax_congr {f g : Nat → Int} (lo hi : Nat) : ∀ n, (∀ i, i < n → f i = g i) → outMax f lo hi n = outMax g lo hi n
  | 0, _ => rfl
  | n + 1, h => by rw [outMax, outMax, outMax_congr lo hi n (fun i hi => h i (by omega)), h n (by omega)]
theorem outMax_le {f : Nat → Int} {M : Int} (lo hi : Nat) (h0 : 0 ≤ M) : ∀ n, (∀ i, i < n → f i ≤ M) → outMax f lo hi n ≤ M
  | 0, _ => h0
  | n + 1, h => by
    have := outMax_le lo hi h0 n (fun i hi => h i (by omega))
    have := h n (by omega)
    rw [outMax]
    split <;> omega

theorem seven_cells {w : World} {N : Nat} {a b c d e f g : Value} {t : TypeId} (h : w.heap[N]? = some (.cells #[a, b, c, d, e, f, g] t (0, 0))) :
    w.cell? ⟨N, 0, none⟩ = some a ∧ w.cell? ⟨N, 1, none⟩ = some b ∧ w.cell? ⟨N, 2, none⟩ = some c ∧ w.cell? ⟨N, 3, none⟩ = some d ∧ w.cell? ⟨N, 4, none⟩ = some e ∧ w.cell? ⟨N, 5, none⟩ = some f ∧ w.cell? ⟨N, 6, none⟩ = some g ∧ N < w.heap.size :=
  ⟨cell_of_row w N 0 _ t _ h, cell_of_row w N 1 _ t _ h, cell_of_row w N 2 _ t _ h, cell_of_row w N 3 _ t _ h, cell_of_row w N 4 _ t _ h, cell_of_row w N 5 _ t _ h, cell_of_row w N 6 _ t _ h, lt_of_block h⟩
theorem seven_frozen {w : World} {N : Nat} {cs : Array Value} {t : TypeId} (h : w.heap[N]? = some (.cells cs t (0, 0))) : w.frozen? ⟨N, 0, none⟩ = false ∧ w.frozen? ⟨N, 1, none⟩ = false ∧ w.frozen? ⟨N, 2, none⟩ = false ∧ w.frozen? ⟨N, 3, none⟩ = false ∧ w.frozen? ⟨N, 4, none⟩ = false ∧ w.frozen? ⟨N, 5, none⟩ = false ∧ w.frozen? ⟨N, 6, none⟩ = false :=
  ⟨frozen_of_row w N 0 cs t h, frozen_of_row w N 1 cs t h, frozen_of_row w N 2 cs t h, frozen_of_row w N 3 cs t h, frozen_of_row w N 4 cs t h, frozen_of_row w N 5 cs t h, frozen_of_row w N 6 cs t h⟩

/-- the field in its box, and the point that is handed back in its own -/
structure RsIn (l s : Int) (v : Value) (w W : World) : Prop where
  hb : Below w.heap.size w W
  h0 : W.heap[w.heap.size]? = some (.cells #[.int .i64 l, .int .i64 s, v] 37 (0, 0))
  h1 : W.heap[w.heap.size + 1]? = some (.cells #[.int .i64 0, .int .i64 0, .int .i64 0, .int .i64 0, .int .i64 0, .int .i64 0, .int .i64 0] 31 (0, 0))
theorem RsIn.next {l s : Int} {v : Value} {w W W' : World} (h : RsIn l s v w W) (hb : Below W.heap.size W W') : RsIn l s v w W' :=
  ⟨h.hb.trans (hb.mono h.hb.size), (hb.block _ (lt_of_block h.h0)).trans h.h0, (hb.block _ (lt_of_block h.h1)).trans h.h1⟩
theorem RsIn.alloc {l s : Int} {v : Value} {w W : World} (h : RsIn l s v w W) (o : Obj) : RsIn l s v w (W.alloc o) := h.next ((Below.refl _ _).alloc (Nat.le_refl _) _)
theorem set7k {W : World} {b : Nat} {p : Addr} {u0 u1 u2 u3 u4 u5 u6 : Value} {v : Option Value} (h : W.cell? p = v) (hb : p.block ≠ b) :
    (((((((W.setCell ⟨b, 0, none⟩ u0).setCell ⟨b, 1, none⟩ u1).setCell ⟨b, 2, none⟩ u2).setCell ⟨b, 3, none⟩ u3).setCell ⟨b, 4, none⟩ u4).setCell ⟨b, 5, none⟩ u5).setCell ⟨b, 6, none⟩ u6).cell? p = v := by
  rw [← h]
  exact World.cell?_of_block ((Below.heap_setCell _ _ _ _ hb).trans ((Below.heap_setCell _ _ _ _ hb).trans ((Below.heap_setCell _ _ _ _ hb).trans ((Below.heap_setCell _ _ _ _ hb).trans ((Below.heap_setCell _ _ _ _ hb).trans ((Below.heap_setCell _ _ _ _ hb).trans (Below.heap_setCell _ _ _ _ hb)))))))
theorem Below.set7 {B N : Nat} {w W : World} (h : Below B w W) (hN : B ≤ N) (u0 u1 u2 u3 u4 u5 u6 : Value) :
    Below B w (((((((W.setCell ⟨N, 0, none⟩ u0).setCell ⟨N, 1, none⟩ u1).setCell ⟨N, 2, none⟩ u2).setCell ⟨N, 3, none⟩ u3).setCell ⟨N, 4, none⟩ u4).setCell ⟨N, 5, none⟩ u5).setCell ⟨N, 6, none⟩ u6) :=
  ((((((h.setCell (p := ⟨N, 0, none⟩) hN _).setCell (p := ⟨N, 1, none⟩) hN _).setCell (p := ⟨N, 2, none⟩) hN _).setCell (p := ⟨N, 3, none⟩) hN _).setCell (p := ⟨N, 4, none⟩) hN _).setCell (p := ⟨N, 5, none⟩) hN _).setCell (p := ⟨N, 6, none⟩) hN _

set_option maxRecDepth 100000 in
set_option maxHeartbeats 1000000 in
theorem Response_bad (l s : Int) (v : Value) (zs : List (Nat × Nat)) (line : Int) (w : World) (hl : I64 l) (hs : I64 s) (hv : Sl w v (cvals .f64 zs)) (hz : ∀ z ∈ zs, z.1 < 2 ^ 64 ∧ z.2 < 2 ^ 64) (hE : lineErr l s zs line ≠ 0) :
    Calls Tryd.prog 8 #[.agg #[.int .i64 l, .int .i64 s, v], .int .i64 line] w fun e w' => e = .returned (.tuple #[pointV 0 0 0 0 0 0 0, .int .i64 (lineErr l s zs line)]) ∧ Below w.heap.size w w' := by
  obtain ⟨W0, hW0⟩ : ∃ W0, W0 = (w.alloc (.cells #[.int .i64 l, .int .i64 s, v] 37)).alloc (.cells #[.int .i64 0, .int .i64 0, .int .i64 0, .int .i64 0, .int .i64 0, .int .i64 0, .int .i64 0] 31) := ⟨_, rfl⟩
  have I0 : Hid (RsIn l s v w W0) := by
    obtain ⟨a1, a2⟩ := alloc2_blocks w (.cells #[.int .i64 l, .int .i64 s, v] 37) (.cells #[.int .i64 0, .int .i64 0, .int .i64 0, .int .i64 0, .int .i64 0, .int .i64 0, .int .i64 0] 31)
    rw [hW0]
    exact ⟨below_new2 _ _ _, a1, a2⟩
  have C := Lib.hid (checkLine_any l s v zs line W0 hl hs (hv.below I0.out.hb (Nat.le_refl _)) hz)
  have HW0 := Lib.hid hW0
  have hd : (lineErr l s zs line != 0) = true := by rw [bne_iff_ne]; exact hE
  obtain ⟨va, vc, rfl, hvl, -⟩ := hv
  generalize (cvals .f64 zs).length = n at *
  generalize lineErr l s zs line = E at *
  clear hl hs hz hW0 hE
  go_enter Tryd.func8, Tryd.ntmps8
  go_wp2_with fail
  rw [← HW0.out]
  refine C.out.mono ?_
  rintro e w2 ⟨rfl, hb2⟩
  have I2 := Lib.hid (I0.out.next hb2)
  clear hb2 I0 C HW0
  obtain ⟨z0, z1, z2, z3, z4, z5, z6, -⟩ := seven_cells I2.out.h1
  obtain ⟨y0, y1, y2, y3, y4, y5, y6⟩ := seven_frozen I2.out.h1
  go_wp2_with fail
  refine bodyPost_ret (v := .tuple #[pointV 0 0 0 0 0 0 0, .int .i64 E]) (by simp [results, Tryd.results8, go_sem, pointV, z0, z1, z2, z3, z4, z5, z6]) rfl ⟨rfl, ?_⟩
  exact Below.set7 I2.out.hb (by omega) _ _ _ _ _ _ _

set_option maxRecDepth 100000 in
set_option maxHeartbeats 4000000 in
theorem Response_ok (L S m : Nat) (v : Value) (zs : List (Nat × Nat)) (w : World) (hv : Sl w v (cvals .f64 zs)) (hcap : ∀ a m c, v = .slice a m c → m ≤ c ∧ c ≤ 9223372036854775807) (hz : ∀ z ∈ zs, z.1 < 2 ^ 64 ∧ z.2 < 2 ^ 64) (hL : L ≤ 64) (hS1 : 1 ≤ S) (hS : S ≤ 64) (hm : m < L) (hlen : zs.length = L * S) (RR : Right .f64 1000000000 zs) (hE : lineErr L S zs m = 0) :
    Calls Tryd.prog 8 #[.agg #[.int .i64 L, .int .i64 S, v], .int .i64 m] w fun e w' => (e = if lineE zs S m (bestI (lineE zs S m) S) = 0 then .returned (.tuple #[pointV 0 0 0 0 0 0 0, .int .i64 12]) else .returned (.tuple #[rspV (lineE zs S m) S, .int .i64 0])) ∧ Below w.heap.size w w' := by
  obtain ⟨W0, hW0⟩ : ∃ W0, W0 = (w.alloc (.cells #[.int .i64 L, .int .i64 S, v] 37)).alloc (.cells #[.int .i64 0, .int .i64 0, .int .i64 0, .int .i64 0, .int .i64 0, .int .i64 0, .int .i64 0] 31) := ⟨_, rfl⟩
  have I0 : Hid (RsIn L S v w W0) := by
    obtain ⟨a1, a2⟩ := alloc2_blocks w (.cells #[.int .i64 L, .int .i64 S, v] 37) (.cells #[.int .i64 0, .int .i64 0, .int .i64 0, .int .i64 0, .int .i64 0, .int .i64 0, .int .i64 0] 31)
    rw [hW0]
    exact ⟨below_new2 _ _ _, a1, a2⟩
  have C := Lib.hid (checkLine_any L S v zs m W0 ⟨by omega, by omega⟩ ⟨by omega, by omega⟩ (hv.below I0.out.hb (Nat.le_refl _)) hz)
  rw [hE] at C
  have HW0 := Lib.hid hW0
  have hn4 : zs.length ≤ 4096 := by rw [hlen]; exact Nat.le_trans (Nat.mul_le_mul hL hS) (by decide)
  have hq : m * S + S ≤ zs.length := by rw [hlen, ← Nat.succ_mul]; exact Nat.mul_le_mul_right _ hm
  have hll := lineZ_length zs S m hq
  have RZ := lineZ_right RR hq
  have HEn : Hid (∀ i, i < S → enAt (lineZ zs S m) i = lineE zs S m i) := fun i hi => lineZ_en zs S m i hi
  have HEb : Hid (∀ i, i < S → 0 ≤ lineE zs S m i ∧ lineE zs S m i ≤ 2000000000000000000) := fun i hi => en_b RR (m * S + i) (by omega)
  have CE : Hid (∀ W v, Sl W v (cvals .f64 (lineZ zs S m)) → Calls Tryd.prog 31 #[v] W fun e w' => ∃ g c, e = .returned (.slice (some ⟨g, 0, none⟩) S c) ∧ W.heap.size ≤ g ∧ Below W.heap.size W w' ∧ Sl w' (.slice (some ⟨g, 0, none⟩) S c) (ivals (enList (lineZ zs S m)))) := fun W v h => by
    have := energiesOf_any v (lineZ zs S m) W h RZ (by omega)
    rwa [hll] at this
  have CG : Hid (∀ W v, Sl W v (ivals (enList (lineZ zs S m))) → Calls Tryd.prog 32 #[v] W fun e w' => e = .returned (.int .i64 (bestI (lineE zs S m) S : Nat)) ∧ W = w') := fun W v h => by
    have := firstGreatest_any v (enList (lineZ zs S m)) W h
    rw [enList_length, hll, bestI_congr S (g := lineE zs S m) (fun i hi => by show (enList (lineZ zs S m)).getD i 0 = _; rw [enList_get _ i (by omega)]; exact HEn.out i hi)] at this
    exact this
  have CO : Hid (∀ W v (lo hi : Nat), Sl W v (ivals (enList (lineZ zs S m))) → lo ≤ 4096 → hi ≤ 4096 → Calls Tryd.prog 36 #[v, .agg #[.int .i64 lo, .int .i64 hi]] W fun e w' => e = .returned (.int .i64 (outMax (lineE zs S m) lo hi S)) ∧ Below W.heap.size W w') := fun W v lo hi h h1 h2 => by
    have := greatestOutside_any v (enList (lineZ zs S m)) lo hi W h (by rw [enList_length]; omega) h1 h2
    rw [enList_length, hll, outMax_congr lo hi S (g := lineE zs S m) (fun i hi => by show (enList (lineZ zs S m)).getD i 0 = _; rw [enList_get _ i (by omega)]; exact HEn.out i hi)] at this
    exact this
  have HIG : Hid (∀ W g c, Sl W (.slice (some ⟨g, 0, none⟩) S c) (ivals (enList (lineZ zs S m))) → ∀ i, i < S → W.cell? ⟨g, 0 + i, none⟩ = some (.int .i64 (lineE zs S m i)) ∧ g < W.heap.size) := fun W g c h i hi => by
    obtain ⟨-, b1, o1, hbb, q1, g1⟩ := h.at (by omega)
    cases hbb
    have := g1 i _ (ivals_get (by rw [enList_length]; omega))
    rw [enList_get _ i (by omega), HEn.out i hi] at this
    exact ⟨this, q1⟩
  have hbl := bestI_lt (lineE zs S m) S hS1
  have HV := Lib.hid hv
  have HSub : Hid (∀ W b o n cap, Sl W (.slice (some ⟨b, o, none⟩) n cap) (cvals .f64 zs) → b < W.heap.size → n = zs.length → Sl W (.slice (some ⟨b, o + m * S, none⟩) S (cap - m * S)) (cvals .f64 (lineZ zs S m))) := fun W b o n cap h h1 h2 => lineZ_sl h h1 hq hn4 hS1 h2
  obtain ⟨ad, cap, rfl, hvl, -⟩ := hv
  obtain ⟨hc1, hc2⟩ := hcap _ _ _ rfl
  have hnc : (cvals .f64 zs).length = zs.length := by simp [cvals]
  rw [hnc] at hvl HV C HW0 hc1 I0 ⊢
  obtain ⟨n, hn⟩ : ∃ n, n = zs.length := ⟨_, rfl⟩
  rw [← hn] at hvl HV C HW0 hlen hc1 hq hn4 I0 ⊢
  have HN := Lib.hid hn
  have M1 : Hid (wrap64 ((m : Int) * S) = ((m * S : Nat) : Int)) := by unfold Hid; rw [IntWalk.wrap64_in]; exact (Int.natCast_mul m S).symm; rw [← Int.natCast_mul]; omega
  have M2 : Hid (wrap64 (((m : Int) + 1) * S) = ((m * S + S : Nat) : Int)) := by
    have e : ((m : Int) + 1) * S = ((m * S + S : Nat) : Int) := by rw [Int.add_mul, Int.natCast_add, Int.natCast_mul]; simp
    unfold Hid
    rw [e, IntWalk.wrap64_in]; omega
  obtain ⟨-, b1, o1, rfl, q1, -⟩ := HV.out.at (by omega)
  have HRS : Hid (rspV (lineE zs S m) S = pointV (bestI (lineE zs S m) S : Nat) (lineE zs S m (bestI (lineE zs S m) S)) (downTo (halfP (lineE zs S m) (lineE zs S m (bestI (lineE zs S m) S))) (bestI (lineE zs S m) S) : Nat) (upFrom (halfP (lineE zs S m) (lineE zs S m (bestI (lineE zs S m) S))) S (bestI (lineE zs S m) S) : Nat) (downTo (lobeP (lineE zs S m)) (bestI (lineE zs S m) S) : Nat) (upFrom (lobeP (lineE zs S m)) S (bestI (lineE zs S m) S) : Nat) (outMax (lineE zs S m) (downTo (lobeP (lineE zs S m)) (bestI (lineE zs S m) S)) (upFrom (lobeP (lineE zs S m)) S (bestI (lineE zs S m) S)) S)) := rfl
  obtain ⟨Rv, hRv⟩ : ∃ Rv, Rv = rspV (lineE zs S m) S := ⟨_, rfl⟩
  rw [← hRv] at HRS ⊢
  obtain ⟨Ex, hEx⟩ : ∃ Ex : Ending, Ex = if lineE zs S m (bestI (lineE zs S m) S) = 0 then .returned (.tuple #[pointV 0 0 0 0 0 0 0, .int .i64 12]) else .returned (.tuple #[Rv, .int .i64 0]) := ⟨_, rfl⟩
  rw [← hEx]
  have HEx := Lib.hid hEx
  have hEb := HEb.out _ hbl
  generalize lineE zs S m = E at *
  generalize bestI E S = p at *
  generalize (ivals (enList (lineZ zs S m))) = evs at *
  obtain ⟨q, hq2⟩ : ∃ q, q = m * S := ⟨_, rfl⟩
  rw [← hq2] at M1 M2 HSub hq
  obtain ⟨r, hr⟩ : ∃ r, r = q + S := ⟨_, rfl⟩
  rw [← hr] at M2 hq
  have s1 : q ≤ r := by omega
  have s2 : r ≤ cap := by omega
  have s4 : ¬ cap = q := by omega
  have s5 : q < cap := by omega
  have esz : r - q = S := by omega
  clear hcap hz hW0 hE RR hll RZ hnc hn hlen hRv hEx hq2 hr
  go_enter Tryd.func8, Tryd.ntmps8
  go_wp2_with fail
  rw [← HW0.out]
  refine C.out.mono ?_
  rintro e w2 ⟨rfl, hb2⟩
  have I2 := Lib.hid (I0.out.next hb2)
  have HV2 := Lib.hid (HV.out.below I2.out.hb (Nat.le_refl _))
  have q2 : b1 < w2.heap.size := Nat.lt_of_lt_of_le q1 I2.out.hb.size
  have HZ2 := Lib.hid (HSub.out w2 b1 o1 n cap HV2.out q2 HN.out)
  clear hb2 I0 C HW0 HV HSub
  obtain ⟨c0, c1, c2, -, -, -, lc⟩ := three_cells I2.out.h0
  have m1 := M1.out
  have m2 := M2.out
  go_wp2_with fail
  clear m1 m2
  try simp only [esz]
  refine (CE.out _ _ HZ2.out).mono ?_
  rintro e w3 ⟨g, gc, rfl, hg, hb3, hs3⟩
  obtain ⟨W4, hW4⟩ : ∃ W4, W4 = w3.alloc (.cells #[.slice (some ⟨g, 0, none⟩) S gc] 73) := ⟨_, rfl⟩
  have n3 : w3.heap.size ≠ w.heap.size + 1 := by have := lt_of_block (I2.out.next hb3).h1; omega
  have I4 : Hid (RsIn L S (.slice (some ⟨b1, o1, none⟩) n cap) w W4) := by rw [hW4]; exact (I2.out.next hb3).alloc _
  have B4 : W4.heap[w3.heap.size]? = some (.cells #[.slice (some ⟨g, 0, none⟩) S gc] 73 (0, 0)) := by rw [hW4]; exact heap_alloc_new _ _
  have S4 : Hid (Sl W4 (.slice (some ⟨g, 0, none⟩) S gc) evs) := by rw [hW4]; exact hs3.below ((Below.refl _ _).alloc (Nat.le_refl _) _) (Nat.le_refl _)
  have HW4 := Lib.hid hW4
  have n4 : W4.heap.size ≠ w.heap.size + 1 := by have := lt_of_block I4.out.h1; omega
  have t0 : W4.cell? ⟨w3.heap.size, 0, none⟩ = some (.slice (some ⟨g, 0, none⟩) S gc) := cell_of_one B4
  have d1 := ((HIG.out W4 g gc S4.out p hbl)).1
  rw [Nat.zero_add] at d1
  clear hW4 hb3 hs3 hg HZ2 HV2 q2 c0 c1 c2 lc I2 CE
  go_wp2_with fail
  rw [← HW4.out]
  refine (CG.out _ _ S4.out).mono ?_
  rintro e w' ⟨rfl, rfl⟩
  have hpi : (p : Int) < S := by omega
  obtain ⟨W5, hW5⟩ : ∃ W5, W5 = W4.alloc (.cells #[.int .i64 (E p)] 3) := ⟨_, rfl⟩
  have HW5 := Lib.hid hW5
  have b45 : Below W4.heap.size W4 W5 := by rw [hW5]; exact (Below.refl _ _).alloc (Nat.le_refl _) _
  have B5 : W5.heap[W4.heap.size]? = some (.cells #[.int .i64 (E p)] 3 (0, 0)) := by rw [hW5]; exact heap_alloc_new _ _
  have I5 := Lib.hid (I4.out.next b45)
  have S5 : Hid (Sl W5 (.slice (some ⟨g, 0, none⟩) S gc) evs) := S4.out.below b45 (Nat.le_refl _)
  have t0' : W5.cell? ⟨w3.heap.size, 0, none⟩ = some (.slice (some ⟨g, 0, none⟩) S gc) := (b45.cell (p := ⟨w3.heap.size, 0, none⟩) (lt_of_block' t0)).trans t0
  have t1 : W5.cell? ⟨W4.heap.size, 0, none⟩ = some (.int .i64 (E p)) := cell_of_one B5
  obtain ⟨z0, z1, z2, z3, z4, z5, z6, zl⟩ := seven_cells I5.out.h1
  obtain ⟨y0, y1, y2, y3, y4, y5, y6⟩ := seven_frozen I5.out.h1
  have hB5 := I5.out.hb
  obtain ⟨gr, hgr⟩ : ∃ gr, gr = E p := ⟨_, rfl⟩
  rw [← hgr] at t1 HW5 HEx HRS d1 hEb
  have HGR := Lib.hid hgr
  have T0 := Lib.hid t0'
  have T1 := Lib.hid t1
  rw [HW5.out] at t0' t1 z0 z1 z2 z3 z4 z5 z6 y0 y1 y2 y3 y4 y5 y6 hB5
  clear hgr hW5 B5 b45 B4 CG
  by_cases h0 : gr = 0
  · have hb0 : (gr == 0) = true := by rw [beq_iff_eq]; exact h0
    have HX : Hid (Ex = .returned (.tuple #[pointV 0 0 0 0 0 0 0, .int .i64 12])) := HEx.out.trans (if_pos h0)
    clear HEx HRS h0
    go_wp2_with fail
    refine bodyPost_ret (v := .tuple #[pointV 0 0 0 0 0 0 0, .int .i64 12]) (by simp [results, Tryd.results8, go_sem, pointV, z0, z1, z2, z3, z4, z5, z6]) rfl ⟨HX.out.symm, ?_⟩
    exact Below.set7 hB5 (by omega) _ _ _ _ _ _ _
  · have hb0 : (gr == 0) = false := by rw [beq_eq_false_iff_ne]; exact h0
    have HX : Hid (Ex = .returned (.tuple #[Rv, .int .i64 0])) := HEx.out.trans (if_neg h0)
    clear HEx h0 z0 z1 z2 z3 z4 z5 z6 y0 y1 y2 y3 y4 y5 y6 hB5
    have HF1 : Hid (∀ W, Below W5.heap.size W5 W → ∀ a b : Nat, a < S → b < S → Calls Tryd.prog 34 (#[.int .i64 a, .int .i64 b] ++ #[.pointer (some ⟨w3.heap.size, 0, none⟩), .pointer (some ⟨W4.heap.size, 0, none⟩)]) W fun e w' => e = .returned (.bool (halfP E gr a b)) ∧ ∃ q, w' = W.drewN q) := fun W hb a b ha hbS =>
      Response1_any a b S g gc w3.heap.size W4.heap.size (E b) gr W ((hb.cell (p := ⟨w3.heap.size, 0, none⟩) (lt_of_block' T0.out)).trans T0.out) ((hb.cell (p := ⟨W4.heap.size, 0, none⟩) (lt_of_block' T1.out)).trans T1.out) ((hb.cell (p := ⟨g, 0 + b, none⟩) (HIG.out W5 g gc S5.out b hbS).2).trans (HIG.out W5 g gc S5.out b hbS).1) hbS (HEb.out b hbS)
    have CR1 := Lib.hid (rangeAround_any 34 enters_Response1 #[.pointer (some ⟨w3.heap.size, 0, none⟩), .pointer (some ⟨W4.heap.size, 0, none⟩)] (halfP E gr) p S hbl (by omega) W5 HF1.out)
    obtain ⟨lo1, hlo1⟩ : ∃ x, x = downTo (halfP E gr) p := ⟨_, rfl⟩
    obtain ⟨hi1, hhi1⟩ : ∃ x, x = upFrom (halfP E gr) S p := ⟨_, rfl⟩
    rw [← hlo1, ← hhi1] at CR1 HRS
    clear HF1 hlo1 hhi1
    go_wp2_with fail
    rw [← HW5.out]
    refine CR1.out.mono ?_
    rintro e w6 ⟨rfl, hb6⟩
    obtain ⟨W7, hW7⟩ : ∃ W7, W7 = w6.alloc (.cells #[.int .i64 lo1, .int .i64 hi1] 29) := ⟨_, rfl⟩
    have HW7 := Lib.hid hW7
    have b57 : Below W5.heap.size W5 W7 := by rw [hW7]; exact hb6.alloc hb6.size _
    have B7 : Hid (W7.heap[w6.heap.size]? = some (.cells #[.int .i64 lo1, .int .i64 hi1] 29 (0, 0))) := by rw [hW7]; exact heap_alloc_new _ _
    have n6 : w6.heap.size ≠ w.heap.size + 1 := by have := lt_of_block (I5.out.next hb6).h1; omega
    have I7 := Lib.hid (I5.out.next b57)
    have S7 : Hid (Sl W7 (.slice (some ⟨g, 0, none⟩) S gc) evs) := S5.out.below b57 (Nat.le_refl _)
    have T07 : Hid (W7.cell? ⟨w3.heap.size, 0, none⟩ = some (.slice (some ⟨g, 0, none⟩) S gc)) := (b57.cell (p := ⟨w3.heap.size, 0, none⟩) (lt_of_block' T0.out)).trans T0.out
    have T17 : Hid (W7.cell? ⟨W4.heap.size, 0, none⟩ = some (.int .i64 gr)) := (b57.cell (p := ⟨W4.heap.size, 0, none⟩) (lt_of_block' T1.out)).trans T1.out
    clear hW7 b57 hb6 I5 S5 T0 T1 t0' t1 CR1
    have HF2 : Hid (∀ W, Below W7.heap.size W7 W → ∀ a b : Nat, a < S → b < S → Calls Tryd.prog 35 (#[.int .i64 a, .int .i64 b] ++ #[.pointer (some ⟨w3.heap.size, 0, none⟩)]) W fun e w' => e = .returned (.bool (lobeP E a b)) ∧ ∃ q, w' = W.drewN q) := fun W hb a b ha hbS =>
      Response2_any a b S g gc w3.heap.size (E b) (E a) W ((hb.cell (p := ⟨w3.heap.size, 0, none⟩) (lt_of_block' T07.out)).trans T07.out) ((hb.cell (p := ⟨g, 0 + a, none⟩) (HIG.out W7 g gc S7.out a ha).2).trans (HIG.out W7 g gc S7.out a ha).1) ((hb.cell (p := ⟨g, 0 + b, none⟩) (HIG.out W7 g gc S7.out b hbS).2).trans (HIG.out W7 g gc S7.out b hbS).1) ha hbS
    have CR2 := Lib.hid (rangeAround_any 35 enters_Response2 #[.pointer (some ⟨w3.heap.size, 0, none⟩)] (lobeP E) p S hbl (by omega) W7 HF2.out)
    have hlo2b := downTo_le (lobeP E) p
    have hhi2b := (upTo_b (lobeP E) S (S - 1 - p) p hbl).2
    obtain ⟨lo2, hlo2⟩ : ∃ x, x = downTo (lobeP E) p := ⟨_, rfl⟩
    obtain ⟨hi2, hhi2⟩ : ∃ x, x = upFrom (lobeP E) S p := ⟨_, rfl⟩
    have hhi2c : hi2 < S := by rw [hhi2]; exact hhi2b
    clear hhi2b
    rw [← hlo2, ← hhi2] at CR2 HRS
    rw [← hlo2] at hlo2b
    clear HF2 hlo2 hhi2
    have t0 := T07.out
    rw [HW7.out] at t0
    go_wp2_with fail
    rw [← HW7.out]
    refine CR2.out.mono ?_
    rintro e w8 ⟨rfl, hb8⟩
    obtain ⟨W9, hW9⟩ : ∃ W9, W9 = w8.alloc (.cells #[.int .i64 lo2, .int .i64 hi2] 29) := ⟨_, rfl⟩
    have HW9 := Lib.hid hW9
    have b79 : Below W7.heap.size W7 W9 := by rw [hW9]; exact hb8.alloc hb8.size _
    have B9 : W9.heap[w8.heap.size]? = some (.cells #[.int .i64 lo2, .int .i64 hi2] 29 (0, 0)) := by rw [hW9]; exact heap_alloc_new _ _
    have n8 : w8.heap.size ≠ w.heap.size + 1 := by have := lt_of_block (I7.out.next hb8).h1; omega
    have I9 := Lib.hid (I7.out.next b79)
    have S9 : Hid (Sl W9 (.slice (some ⟨g, 0, none⟩) S gc) evs) := S7.out.below b79 (Nat.le_refl _)
    have B79 := (b79.block _ (lt_of_block B7.out)).trans B7.out
    have k0 : W9.cell? ⟨w3.heap.size, 0, none⟩ = some (.slice (some ⟨g, 0, none⟩) S gc) := (b79.cell (p := ⟨w3.heap.size, 0, none⟩) (lt_of_block' T07.out)).trans T07.out
    have k1 : W9.cell? ⟨W4.heap.size, 0, none⟩ = some (.int .i64 gr) := (b79.cell (p := ⟨W4.heap.size, 0, none⟩) (lt_of_block' T17.out)).trans T17.out
    obtain ⟨k2, k3, -, -, -⟩ := two_cells B79
    obtain ⟨k4, k5, -, -, -⟩ := two_cells B9
    have CO9 := Lib.hid (fun W (hb : Below W9.heap.size W9 W) => CO.out W _ lo2 hi2 (S9.out.below hb (Nat.le_refl _)) (by omega) (by omega))
    obtain ⟨sd, hsd⟩ : ∃ x, x = outMax E lo2 hi2 S := ⟨_, rfl⟩
    rw [← hsd] at CO9 HRS
    clear hW9 b79 hb8 I7 S7 T07 T17 t0 CR2 B7 B79 B9 hsd HW7 CO HIG
    go_wp2_with fail
    rw [← HW9.out]
    go_region_held3 (fun W => W.cell? ⟨w3.heap.size, 0, none⟩ = some (.slice (some ⟨g, 0, none⟩) S gc) ∧ W.cell? ⟨W4.heap.size, 0, none⟩ = some (.int .i64 gr) ∧ W.cell? ⟨w6.heap.size, 0, none⟩ = some (.int .i64 lo1) ∧ W.cell? ⟨w6.heap.size, 1, none⟩ = some (.int .i64 hi1) ∧ W.cell? ⟨w8.heap.size, 0, none⟩ = some (.int .i64 lo2) ∧ W.cell? ⟨w8.heap.size, 1, none⟩ = some (.int .i64 hi2)) (first | with_reducible exact ⟨Below.keepc hBO k0, Below.keepc hBO k1, Below.keepc hBO k2, Below.keepc hBO k3, Below.keepc hBO k4, Below.keepc hBO k5⟩ | with_reducible exact ⟨set7k (Below.keepc hBO k0) n3, set7k (Below.keepc hBO k1) n4, set7k (Below.keepc hBO k2) n6, set7k (Below.keepc hBO k3) n6, set7k (Below.keepc hBO k4) n8, set7k (Below.keepc hBO k5) n8⟩ | exact ⟨k0, k1, k2, k3, k4, k5⟩)
      (first | (go_at_call 36; refine (CO9.out _ ((Below.refl W9.heap.size W9).drew)).mono ?_; rintro e wO ⟨rfl, hbO⟩; have hBO : Below W9.heap.size W9 wO := ((Below.refl _ _).drew).trans hbO; have IO := Lib.hid (I9.out.next hBO); obtain ⟨z0, z1, z2, z3, z4, z5, z6, zl⟩ := seven_cells IO.out.h1; obtain ⟨y0, y1, y2, y3, y4, y5, y6⟩ := seven_frozen IO.out.h1))
    all_goals
      go_wp2_with fail
      refine bodyPost_ret (v := .tuple #[pointV p gr lo1 hi1 lo2 hi2 sd, .int .i64 0]) (by simp [results, Tryd.results8, go_sem, pointV, z0, z1, z2, z3, z4, z5, z6]) rfl ⟨?_, Below.set7 IO.out.hb (by omega) _ _ _ _ _ _ _⟩
      rw [HX.out, HRS.out]
end Go.Proofs.YtmiaglkkjncfnaaDoor
