import Derived.Test.YtodpjhhogcfodaaYm
import Derived.Test.YtodpjhhogcfodaaRx
import Derived.Deep.RegionHeld3
import Derived.Outline
import Derived.BigQuiet
namespace Go.Proofs.Ytodpjhhogcfodaa.Orb
open Go.RowKit Lib

theorem enters_mb : ∀ args w, (callFunc 103 args).run Try.prog w = .ok (.enter 103 args) w := enters_of Try.func103 (by kernel_rfl) rfl

set_option maxRecDepth 100000 in
theorem mb1_any (v : Value) (nm : ByteArray) (bend : Int) (L : List St) (hR : Rt bend L) (t : Int) (h0 : fst L ≤ t) (h1 : t ≤ lst L) (x y z : Int) (hp : placeE x y z = 0) (w : World) (hv : OV w v nm bend L) (sp : Option Addr) (cap B7 B3 : Nat) (hvf : v = .agg #[.string nm, .int .i64 bend, .slice sp L.length cap])
    (k7 : w.heap[B7]? = some (.cells #[.string nm, .int .i64 bend, .slice sp L.length cap] 115 (0, 0))) (k3 : w.heap[B3]? = some (.cells #[.int .i64 x, .int .i64 y, .int .i64 z] 26 (0, 0))) :
    Calls Try.prog 103 #[.int .i64 t, .pointer (some ⟨B7, 0, none⟩), .pointer (some ⟨B3, 0, none⟩)] w fun e w' => e = .returned (.int .i64 (sHi bend L x y z t)) ∧ Below w.heap.size w w' := by
  have CN : Hid (Calls Try.prog 76 #[v, .int .i64 t, .agg #[.int .i64 x, .int .i64 y, .int .i64 z]] w fun e w' => e = .returned (.agg #[.int .i64 (sLo bend L x y z t), .int .i64 (sHi bend L x y z t)]) ∧ Below w.heap.size w w') := squareAt_any v nm bend L hR t h0 h1 x y z hp w hv
  subst hvf
  obtain ⟨c0, c1, c2⟩ := cells3 k7
  obtain ⟨d0, d1, d2⟩ := cells3 k3
  clear hv hR h0 h1 hp k7 k3
  generalize sLo bend L x y z t = R0 at *
  generalize sHi bend L x y z t = R at *
  generalize L.length = n at *
  have FH1 := fld_hi R0 R
  go_enter Try.func103, Try.ntmps103
  go_wp2_with fail
  refine CN.out.mono ?_
  rintro e w1 ⟨rfl, hb⟩
  have HB := Lib.hid hb
  clear hb
  go_wp2_with fail
  go_ret
  exact ⟨rfl, HB.out⟩

/-- the tick that proves it, and its square; the ticks that may be nearest -/
def witness (bend : Int) (L : List St) (x y z : Int) : Int × Int := leastOf (sHi bend L x y z) (fst L) (ticksOf (fst L) (nTicks L))
def mayBe (bend : Int) (L : List St) (x y z : Int) : Int × Int := mayF (sLo bend L x y z) (witness bend L x y z).2 (witness bend L x y z).1 (ticksOf (fst L) (nTicks L))

attribute [local go_sem] Oper.semAt_some

set_option maxRecDepth 100000 in
set_option maxHeartbeats 8000000 in
/-- THE TICKS THAT MAY BE NEAREST -/
theorem MayBeNearest_any (v : Value) (nm : ByteArray) (hs : nm.size ≤ 1000) (bend : Int) (L : List St) (hI : ∀ k, (gt L k).t ≤ 9223372036854775807) (x y z : Int) (w : World) (hv : OV w v nm bend L) :
    Calls Try.prog 38 #[v, .agg #[.int .i64 x, .int .i64 y, .int .i64 z]] w fun e w' => e = .returned (.tuple #[.agg #[.int .i64 (zif (opE (nameE nm) bend L x y z) (mayBe bend L x y z).1), .int .i64 (zif (opE (nameE nm) bend L x y z) (mayBe bend L x y z).2)], .int .i64 (zif (opE (nameE nm) bend L x y z) (witness bend L x y z).1), .int .i64 (opE (nameE nm) bend L x y z)]) ∧ Below w.heap.size w w' := by
  have CC := Lib.hid (fun W (h : Below w.heap.size w W) => check_any v nm hs bend L hI W (hv.next h))
  have CQ := Lib.hid (fun W => placeError_any x y z W)
  have CF := Lib.hid (fun W => firstError2 (orbE (nameE nm) bend L).2 (placeE x y z) W)
  obtain ⟨sp, cap, hvf, -, -, -⟩ := hv.form
  have HOK := Lib.hid (show opE (nameE nm) bend L x y z = 0 → (∀ W, Below w.heap.size w W → Iter Try.prog 70 #[v] 4 w.heap.size (ticksOf (fst L) (nTicks L)) W) ∧
      (∀ pre t, pre ++ [t] <+: ticksOf (fst L) (nTicks L) → ∀ W, Below w.heap.size w W → Calls Try.prog 76 #[v, .int .i64 t, .agg #[.int .i64 x, .int .i64 y, .int .i64 z]] W fun e w' => e = .returned (.agg #[.int .i64 (sLo bend L x y z t), .int .i64 (sHi bend L x y z t)]) ∧ Below W.heap.size W w') ∧
      (∀ W B7 B3, Below w.heap.size w W → W.heap[B7]? = some (.cells #[.string nm, .int .i64 bend, .slice sp L.length cap] 115 (0, 0)) → W.heap[B3]? = some (.cells #[.int .i64 x, .int .i64 y, .int .i64 z] 26 (0, 0)) →
        Calls Try.prog 101 #[v, .func (.func 103) #[] #[.pointer (some ⟨B7, 0, none⟩), .pointer (some ⟨B3, 0, none⟩)]] W fun e w' => e = .returned (.tuple #[.int .i64 (witness bend L x y z).1, .int .i64 (witness bend L x y z).2]) ∧ Below W.heap.size W w') by
    intro h0
    obtain ⟨-, -, hR, hpl⟩ := opE_zero h0
    have n0 := hR.n0
    have n1 := hR.n1
    have hlo : 0 ≤ fst L := (hR.st 0 (by omega)).t0
    have hhi : lst L ≤ 1000000000 := (hR.st (L.length - 1) (by omega)).t1
    have hle : fst L ≤ lst L := hR.le 0 (L.length - 1) (Nat.zero_le _) (by omega)
    refine ⟨fun W h => ticks_iter v nm bend L (by omega) (by omega) hle hlo hhi 4 (by decide) w W hv h, fun pre t h W hW => ?_, fun W B7 B3 h k7 k3 => ?_⟩
    · have hx : t ∈ ticksOf (fst L) (nTicks L) := h.subset (by simp)
      obtain ⟨i, hi', rfl⟩ := List.mem_map.1 hx
      have := List.mem_range.1 hi'
      have hnt : (nTicks L : Int) = lst L - fst L + 1 := by unfold nTicks; omega
      exact squareAt_any v nm bend L hR _ (by omega) (by omega) x y z hpl W (hv.next hW)
    · exact least_any v nm bend L hR 103 enters_mb #[.pointer (some ⟨B7, 0, none⟩), .pointer (some ⟨B3, 0, none⟩)] (sHi bend L x y z) W (hv.next h)
        (fun t a1 a2 W' hb => mb1_any v nm bend L hR t a1 a2 x y z hpl W' ((hv.next h).next hb) sp cap B7 B3 hvf (keepb hb k7) (keepb hb k3)))
  have hR : firstE [(orbE (nameE nm) bend L).2, placeE x y z] = opE (nameE nm) bend L x y z := rfl
  have HSN := Lib.hid (fun pre t => mayF_snoc (sLo bend L x y z) (witness bend L x y z).2 (witness bend L x y z).1 pre t)
  have HS0 := Lib.hid (show mayF (sLo bend L x y z) (witness bend L x y z).2 (witness bend L x y z).1 [] = ((witness bend L x y z).1, (witness bend L x y z).1) from rfl)
  have HMB := Lib.hid (show mayBe bend L x y z = mayF (sLo bend L x y z) (witness bend L x y z).2 (witness bend L x y z).1 (ticksOf (fst L) (nTicks L)) from rfl)
  rw [hR] at CF
  subst hvf
  clear hv hR hs hI
  generalize mayBe bend L x y z = MB at *
  generalize opE (nameE nm) bend L x y z = E at *
  generalize (orbE (nameE nm) bend L).2 = e1 at *
  generalize placeE x y z = e2 at *
  generalize ticksOf (fst L) (nTicks L) = xs at *
  generalize sLo bend L x y z = FL at *
  generalize sHi bend L x y z = FH at *
  generalize witness bend L x y z = WN at *
  obtain ⟨wn, bd⟩ := WN
  dsimp only at *
  generalize mayF FL bd wn = MF at *
  generalize L.length = n at *
  have hw : (E = 0 ∧ Hid (∀ x, zif E x = x)) ∨ ((E != 0) = true ∧ Hid (∀ x, zif E x = 0)) := by
    by_cases h : E = 0
    · exact .inl ⟨h, fun x => if_pos h⟩
    · exact .inr ⟨by rw [bne_iff_ne]; exact h, fun x => if_neg h⟩
  rcases hw with ⟨rfl, HZ⟩ | ⟨hne, HZ⟩
  all_goals
    simp only [HZ.out]
    refine (callsIn_wide (n := 5)).1 ?_
    refine callsIn_of_wp_marks Try.func38 rfl trivial ?_ rfl
    simp only [Try.ntmps38, List.size_toArray, List.length_cons, List.length_nil, Nat.reduceAdd, Nat.reduceSub, Array.replicate_succ, Array.replicate_zero, List.push_toArray, List.append_toArray, List.nil_append, List.cons_append]
    refine wpIn_wide.2 ?_
    go_upto_region 2 with fail
    obtain ⟨W0, hW0⟩ : ∃ W0, W0 = (((w.alloc (.cells #[.string nm, .int .i64 bend, .slice sp n cap] 24)).alloc (.cells #[.int .i64 x, .int .i64 y, .int .i64 z] 26)).alloc (.cells #[.int .i64 0, .int .i64 0] 42)).alloc (.cells #[.string nm, .int .i64 bend, .slice sp n cap] 115) := ⟨_, rfl⟩
    rw [← hW0]
    have HB0 := Lib.hid (show Below w.heap.size w W0 by rw [hW0]; (repeat (first | with_reducible exact Below.refl _ _ | with_reducible refine alloc1 ?_ _ | with_reducible refine Below.drew ?_ | with_reducible refine drewN1 ?_ _ | with_reducible refine setC ?_ (by omega) _)))
    have HW0 := Lib.hid (show W0.heap[w.heap.size + 1 + 1 + 1]? = some (.cells #[.string nm, .int .i64 bend, .slice sp n cap] 115 (0, 0)) by rw [hW0]; (repeat (first | ((with_reducible refine hnew ?_); (simp; done)) | with_reducible refine hdrew ?_ | with_reducible refine hold ?_)))
    have HY0 := Lib.hid (show W0.heap[w.heap.size + 1]? = some (.cells #[.int .i64 x, .int .i64 y, .int .i64 z] 26 (0, 0)) by rw [hW0]; (repeat (first | ((with_reducible refine hnew ?_); (simp; done)) | with_reducible refine hdrew ?_ | with_reducible refine hold ?_)))
    have HR0 := Lib.hid (show W0.heap[w.heap.size + 1 + 1]? = some (.cells #[.int .i64 0, .int .i64 0] 42 (0, 0)) by rw [hW0]; (repeat (first | ((with_reducible refine hnew ?_); (simp; done)) | with_reducible refine hdrew ?_ | with_reducible refine hold ?_)))
    clear hW0
    obtain ⟨k0, k1, k2⟩ := cells3 HW0.out
    obtain ⟨y0, y1, y2⟩ := cells3 HY0.out
    go_region_held3 (fun W => W.cell? ⟨w.heap.size + 1 + 1 + 1, 0, none⟩ = some (.string nm) ∧ W.cell? ⟨w.heap.size + 1 + 1 + 1, 1, none⟩ = some (.int .i64 bend) ∧ W.cell? ⟨w.heap.size + 1 + 1 + 1, 2, none⟩ = some (.slice sp n cap) ∧ W.cell? ⟨w.heap.size + 1, 0, none⟩ = some (.int .i64 x) ∧ W.cell? ⟨w.heap.size + 1, 1, none⟩ = some (.int .i64 y) ∧ W.cell? ⟨w.heap.size + 1, 2, none⟩ = some (.int .i64 z)) (with_reducible refine ⟨keepc ?_ k0, keepc ?_ k1, keepc ?_ k2, keepc ?_ y0, keepc ?_ y1, keepc ?_ y2⟩ <;> (repeat (first | with_reducible exact Below.refl _ _ | with_reducible refine andThen ?_ hbP | with_reducible refine andThen ?_ hbC | with_reducible refine alloc1 ?_ _ | with_reducible refine Below.drew ?_ | with_reducible refine drewN1 ?_ _ | with_reducible refine setC ?_ (by omega) _)) <;> done)
      (first
        | (go_at_call 67; (with_reducible refine (CC.out _ (trans' HB0.out (by (repeat (first | with_reducible exact Below.refl _ _ | with_reducible refine andThen ?_ hbP | with_reducible refine alloc1 ?_ _ | with_reducible refine Below.drew ?_ | with_reducible refine drewN1 ?_ _ | with_reducible refine setC ?_ (by omega) _))))).mono ?_); rintro e wC ⟨rfl, hbC⟩)
        | (go_at_call 68; (with_reducible refine (CQ.out _).mono ?_); rintro e wP ⟨rfl, hbP⟩)
        | (go_at_call 66; (with_reducible refine (CF.out _).mono ?_); rintro e w1 ⟨rfl, rfl⟩))
    all_goals
      obtain ⟨W5, hW5⟩ : ∃ W5, W5 = wP.alloc (.cells #[.int .i64 e1, .int .i64 e2] 30) := ⟨_, rfl⟩
      rw [← hW5]
      have hb5 : Below W0.heap.size W0 W5 := by rw [hW5]; (repeat (first | with_reducible exact Below.refl _ _ | with_reducible refine andThen ?_ hbP | with_reducible refine andThen ?_ hbC | with_reducible refine alloc1 ?_ _ | with_reducible refine Below.drew ?_ | with_reducible refine drewN1 ?_ _ | with_reducible refine setC ?_ (by omega) _))
      have HB5 := Lib.hid (trans' HB0.out hb5)
      generalize Value.slice (some ⟨wP.heap.size, 0, none⟩) 2 2 = s19 at *
      have HW5 := Lib.hid (keepb hb5 HW0.out)
      have HY5 := Lib.hid (keepb hb5 HY0.out)
      have HR5 := Lib.hid (keepb hb5 HR0.out)
      clear hW5 hb5 k0 k1 k2 y0 y1 y2 hbP hbC HB0 HW0 HY0 HR0 CC CQ CF
  · all_goals
      obtain ⟨HIT, HRD, HLE⟩ := HOK.out trivial
      have HIT := Lib.hid HIT
      have HRD := Lib.hid HRD
      have HLE := Lib.hid HLE
      clear HOK
      obtain ⟨k0, k1, k2⟩ := cells3 HW5.out
      go_wp2_with fail
      refine (HLE.out _ _ _ HB5.out HW5.out HY5.out).mono ?_
      rintro e w6 ⟨rfl, hb⟩
      have HB6 := Lib.hid (trans' HB5.out hb)
      have HW6 := Lib.hid (keepb hb HW5.out)
      have HY6 := Lib.hid (keepb hb HY5.out)
      have HR6 := Lib.hid (keepb hb HR5.out)
      clear hb HB5 HW5 HY5 HR5
      clear k0 k1 k2
      go_upto_region 7 with fail
      have HW6o := Lib.hid HW6.out
      obtain ⟨w7, hW⟩ : ∃ w7, w7 = w6.alloc (.cells #[.int .i64 bd] 3) := ⟨_, rfl⟩
      rw [← hW]
      have hb := new_below w6 (.cells #[.int .i64 bd] 3)
      rw [← hW] at hb
      have HS7 := Lib.hid (show w7.heap.size = w6.heap.size + 1 by rw [hW]; simp)
      have HX7 := Lib.hid (show w7.heap[w6.heap.size]? = some (.cells #[.int .i64 bd] 3 (0, 0)) by rw [hW]; exact heap_alloc_new _ _)
      have HB7 := Lib.hid (trans' HB6.out hb)
      have HW7 := Lib.hid (keepb hb HW6.out)
      have HY7 := Lib.hid (keepb hb HY6.out)
      have HR7 := Lib.hid (keepb hb HR6.out)
      clear hW hb HB6 HW6 HY6 HR6
      obtain ⟨w8, hW⟩ : ∃ w8, w8 = w7.alloc (.cells #[.int .i64 wn, .int .i64 wn] 42) := ⟨_, rfl⟩
      rw [← hW]
      have hb := new_below w7 (.cells #[.int .i64 wn, .int .i64 wn] 42)
      rw [← hW] at hb
      have HV8 := Lib.hid (show w8.heap[w7.heap.size]? = some (.cells #[.int .i64 wn, .int .i64 wn] 42 (0, 0)) by rw [hW]; exact heap_alloc_new _ _)
      have HB8 := Lib.hid (trans' HB7.out hb)
      have HX8 := Lib.hid (keepb hb HX7.out)
      have HW8 := Lib.hid (keepb hb HW7.out)
      have HY8 := Lib.hid (keepb hb HY7.out)
      have HR8 := Lib.hid (keepb hb HR7.out)
      clear hW hb HB7 HX7 HW7 HY7 HR7
      rw [HS7.out] at HV8
      obtain ⟨k0, k1, k2⟩ := cells3 HW8.out
      go_wp2_with fail
      refine (wpIn_wide (n := 5)).1 ?_
      have hz8 := lt_of_block HW8.out
      have hx8 := lt_of_block HX8.out
      have hv8 := lt_of_block HV8.out
      have hx7 : w6.heap.size < w6.heap.size + 1 := Nat.lt_succ_self _
      have hr6 : w.heap.size + 1 + 1 + 1 < w6.heap.size := lt_of_block HW6o.out
      have HSZ := Lib.hid (And.intro hx7 hr6)
      have hb86 : w.heap.size ≤ w8.heap.size := HB8.out.size
      refine wpIn_over (n₀ := w.heap.size) (by decide) rfl enters_ticks (by omega) xs (HIT.out w8 HB8.out)
        (fun pre W => Below w.heap.size w W ∧ W.heap[w.heap.size + 1 + 1 + 1]? = some (.cells #[.string nm, .int .i64 bend, .slice sp n cap] 115 (0, 0)) ∧ W.heap[w.heap.size + 1]? = some (.cells #[.int .i64 x, .int .i64 y, .int .i64 z] 26 (0, 0)) ∧ W.heap[w6.heap.size]? = some (.cells #[.int .i64 bd] 3 (0, 0)) ∧ W.heap[w.heap.size + 1 + 1]? = some (.cells #[.int .i64 0, .int .i64 0] 42 (0, 0)) ∧ W.heap[w6.heap.size + 1]? = some (.cells #[.int .i64 (MF pre).1, .int .i64 (MF pre).2] 42 (0, 0)))
        (fun _ _ _ => False)
        (fun s => (Calm.below hb86).and ((Calm.blk (by omega)).and ((Calm.blk (by omega)).and ((Calm.blk hx8).and ((Calm.blk (by omega)).and (Calm.blk hv8))))))
        (fun _ _ => Calm.pure)
        ⟨HB8.out, HW8.out, HY8.out, HX8.out, HR8.out, by rw [HS0.out]; exact HV8.out⟩
        (fun t => { tmps := #[.agg #[.string nm, .int .i64 bend, .slice sp n cap], .agg #[.int .i64 x, .int .i64 y, .int .i64 z], .pointer (some ⟨w.heap.size, 0, none⟩), .pointer (some ⟨w.heap.size + 1, 0, none⟩), .pointer (some ⟨w.heap.size + 1 + 1, 0, none⟩), .int .i64 0, .int .i64 0, .pointer (some ⟨w.heap.size + 1 + 1 + 1, 0, none⟩), .int .i64 0, .int .i64 wn, .pointer (some ⟨w6.heap.size, 0, none⟩), .pointer (some ⟨w6.heap.size + 1, 0, none⟩), .int .i64 t, .agg #[.string nm, .int .i64 bend, .slice sp n cap], .agg #[.string nm, .int .i64 bend, .slice sp n cap], .agg #[.string nm, .int .i64 bend, .slice sp n cap], .int .i64 e1, .agg #[.int .i64 x, .int .i64 y, .int .i64 z], .int .i64 e2, s19, .int .i64 0, .int .i64 0, .bool false, undef, undef, .tuple #[.int .i64 wn, .int .i64 bd], .agg #[.string nm, .int .i64 bend, .slice sp n cap], .func (.func 103) #[] #[.pointer (some ⟨w.heap.size + 1 + 1 + 1, 0, none⟩), .pointer (some ⟨w.heap.size + 1, 0, none⟩)], .tuple #[.int .i64 wn, .int .i64 bd], .int .i64 wn, .int .i64 bd, .int .i64 wn, .int .i64 wn, .agg #[.int .i64 wn, .int .i64 wn], .agg #[.string nm, .int .i64 bend, .slice sp n cap], .func (.func 70) #[.agg #[.string nm, .int .i64 bend, .slice sp n cap]] #[], .int .i64 t, undef, undef, undef, undef, undef, undef, undef, undef, undef, undef, undef, undef, undef, undef, undef, undef, undef, undef, undef], defers := [] }) ?assign ?body ?done ?stop
      case assign =>
        intro l x W K hK
        gi_wp2_with fail
        exact hK
      case body =>
        rintro l pre t W ⟨hB, hp, hy, hx, hr, hv⟩ hpre hsz
        have hcall := HRD.out pre t hpre
        have HC := Lib.hid (fun WQ (h : Below W.heap.size W WQ) => (hcall WQ (trans' hB h)).mono (fun e w' (h2 : e = .returned (.agg #[.int .i64 (FL t), .int .i64 (FH t)]) ∧ Below WQ.heap.size WQ w') => (⟨h2.1, andThen h h2.2⟩ : e = .returned (.agg #[.int .i64 (FL t), .int .i64 (FH t)]) ∧ Below W.heap.size W w')))
        have HQT : Hid (MF (pre ++ [t]) = if FL t ≤ bd then (min (MF pre).1 t, max (MF pre).2 t) else MF pre) := HSN.out pre t
        have HFL := Lib.hid (fld_lo (FL t) (FH t))
        have HB := Lib.hid hB
        have HW := Lib.hid hp
        have HY := Lib.hid hy
        have HX := Lib.hid hx
        have HR := Lib.hid hr
        have HV := Lib.hid hv
        clear hcall hB hp hy hx hr hv HSN HRD HLE HIT HMB HS0
        obtain ⟨⟨a, b⟩, hM0⟩ : ∃ M0, M0 = MF pre := ⟨_, rfl⟩
        rw [← hM0] at HV HQT
        clear hM0
        dsimp only at HV HQT
        by_cases c3 : FL t ≤ bd
        · by_cases c1 : t < a
          · by_cases c2 : b < t
            · have HQ : Hid (MF (pre ++ [t]) = (t, t)) := HQT.out.trans (by rw [if_pos c3, show min a t = t from by omega, show max b t = t from by omega])
              gi_wp2_with fail
              refine region_round (by kernel_rfl) (by kernel_rfl) (no_defer (by kernel_rfl)) (fun W' => Below W.heap.size W W') (Below.refl _ W).drew ?_
              refine Go.BigFrame.wpQuiet_want (by rfl) (fun K hK => ⟨.agg #[.string nm, .int .i64 bend, .slice sp n cap], fun WQ hWQ => ?_, hK _ ?_⟩)
              · clear hK
                obtain ⟨q0, q1, q2⟩ := cells3 (keepb hWQ HW.out)
                unfold Oper.quietAt
                go_simp
              clear hK K
              simp only [Act.put, List.setIfInBounds_toArray, List.set_cons_succ, List.set_cons_zero]
              refine Go.BigFrame.wpQuiet_want (by rfl) (fun K hK => ⟨.int .i64 t, fun WQ hWQ => ?_, hK _ ?_⟩)
              · clear hK
                unfold Oper.quietAt
                go_simp
              clear hK K
              simp only [Act.put, List.setIfInBounds_toArray, List.set_cons_succ, List.set_cons_zero]
              refine Go.BigFrame.wpQuiet_want (by rfl) (fun K hK => ⟨.agg #[.int .i64 x, .int .i64 y, .int .i64 z], fun WQ hWQ => ?_, hK _ ?_⟩)
              · clear hK
                obtain ⟨q0, q1, q2⟩ := cells3 (keepb hWQ HY.out)
                unfold Oper.quietAt
                go_simp
              clear hK K
              simp only [Act.put, List.setIfInBounds_toArray, List.set_cons_succ, List.set_cons_zero]
              refine Go.BigFrame.wpQuiet_want (by rfl) (fun K hK => ⟨.agg #[.int .i64 (FL t), .int .i64 (FH t)], fun WQ hWQ => ?_, hK _ ?_⟩)
              · clear hK
                unfold Oper.quietAt
                go_simp
                exact HC.out WQ hWQ
              clear hK K
              simp only [Act.put, List.setIfInBounds_toArray, List.set_cons_succ, List.set_cons_zero]
              refine Go.BigFrame.wpQuiet_want (by rfl) (fun K hK => ⟨.int .i64 (FL t), fun WQ hWQ => ?_, hK _ ?_⟩)
              · clear hK
                have hf := HFL.out
                unfold Oper.quietAt
                go_simp
              clear hK K
              simp only [Act.put, List.setIfInBounds_toArray, List.set_cons_succ, List.set_cons_zero]
              refine Go.BigFrame.wpQuiet_want (by rfl) (fun K hK => ⟨.int .i64 bd, fun WQ hWQ => ?_, hK _ ?_⟩)
              · clear hK
                have q0 := cells_one (keepb hWQ HX.out)
                unfold Oper.quietAt
                go_simp
              clear hK K
              simp only [Act.put, List.setIfInBounds_toArray, List.set_cons_succ, List.set_cons_zero]
              refine Go.BigFrame.wpQuiet_want (by rfl) (fun K hK => ⟨.bool true, fun WQ hWQ => ?_, hK _ ?_⟩)
              · clear hK
                unfold Oper.quietAt
                go_simp
              clear hK K
              simp only [Act.put, List.setIfInBounds_toArray, List.set_cons_succ, List.set_cons_zero]
              refine wpQuiet_nil ?_
              intro W7 hb7
              have HO7 := Lib.hid (KeepsOthers.trans (others_of_below hb7) (KeepsOthers.refl _))
              have HK7 := Lib.hid (Keeps.of_below (n₀ := w.heap.size) (B := w8.heap.size + 2) hb7 HB.out.size)
              have HB7 := Lib.hid (trans' HB.out hb7)
              have HW7 := Lib.hid (keepb hb7 HW.out)
              have HY7 := Lib.hid (keepb hb7 HY.out)
              have HX7 := Lib.hid (keepb hb7 HX.out)
              have HR7 := Lib.hid (keepb hb7 HR.out)
              have HV7 := Lib.hid (keepb hb7 HV.out)
              clear hb7
              obtain ⟨v0, v1, f0, f1⟩ := two_cells HV7.out
              gi_wp2_with fail
              obtain ⟨s1, s2⟩ := HSZ.out
              refine ⟨HO7.out.trans ((KeepsOthers.setCell _ _ _).trans (KeepsOthers.setCell _ _ _)), HK7.out.trans ((Keeps.set (by omega) (by omega) _).trans (Keeps.set (by omega) (by omega) _)), setC (setC HB7.out (by omega) _) (by omega) _, heap_ne (by omega) (heap_ne (by omega) HW7.out), heap_ne (by omega) (heap_ne (by omega) HY7.out), heap_ne (by omega) (heap_ne (by omega) HX7.out), heap_ne (by omega) (heap_ne (by omega) HR7.out), ?_⟩
              rw [HQ.out]
              exact set_block (set_block HV7.out)
            · have HQ : Hid (MF (pre ++ [t]) = (t, b)) := HQT.out.trans (by rw [if_pos c3, show min a t = t from by omega, show max b t = b from by omega])
              gi_wp2_with fail
              refine region_round (by kernel_rfl) (by kernel_rfl) (no_defer (by kernel_rfl)) (fun W' => Below W.heap.size W W') (Below.refl _ W).drew ?_
              refine Go.BigFrame.wpQuiet_want (by rfl) (fun K hK => ⟨.agg #[.string nm, .int .i64 bend, .slice sp n cap], fun WQ hWQ => ?_, hK _ ?_⟩)
              · clear hK
                obtain ⟨q0, q1, q2⟩ := cells3 (keepb hWQ HW.out)
                unfold Oper.quietAt
                go_simp
              clear hK K
              simp only [Act.put, List.setIfInBounds_toArray, List.set_cons_succ, List.set_cons_zero]
              refine Go.BigFrame.wpQuiet_want (by rfl) (fun K hK => ⟨.int .i64 t, fun WQ hWQ => ?_, hK _ ?_⟩)
              · clear hK
                unfold Oper.quietAt
                go_simp
              clear hK K
              simp only [Act.put, List.setIfInBounds_toArray, List.set_cons_succ, List.set_cons_zero]
              refine Go.BigFrame.wpQuiet_want (by rfl) (fun K hK => ⟨.agg #[.int .i64 x, .int .i64 y, .int .i64 z], fun WQ hWQ => ?_, hK _ ?_⟩)
              · clear hK
                obtain ⟨q0, q1, q2⟩ := cells3 (keepb hWQ HY.out)
                unfold Oper.quietAt
                go_simp
              clear hK K
              simp only [Act.put, List.setIfInBounds_toArray, List.set_cons_succ, List.set_cons_zero]
              refine Go.BigFrame.wpQuiet_want (by rfl) (fun K hK => ⟨.agg #[.int .i64 (FL t), .int .i64 (FH t)], fun WQ hWQ => ?_, hK _ ?_⟩)
              · clear hK
                unfold Oper.quietAt
                go_simp
                exact HC.out WQ hWQ
              clear hK K
              simp only [Act.put, List.setIfInBounds_toArray, List.set_cons_succ, List.set_cons_zero]
              refine Go.BigFrame.wpQuiet_want (by rfl) (fun K hK => ⟨.int .i64 (FL t), fun WQ hWQ => ?_, hK _ ?_⟩)
              · clear hK
                have hf := HFL.out
                unfold Oper.quietAt
                go_simp
              clear hK K
              simp only [Act.put, List.setIfInBounds_toArray, List.set_cons_succ, List.set_cons_zero]
              refine Go.BigFrame.wpQuiet_want (by rfl) (fun K hK => ⟨.int .i64 bd, fun WQ hWQ => ?_, hK _ ?_⟩)
              · clear hK
                have q0 := cells_one (keepb hWQ HX.out)
                unfold Oper.quietAt
                go_simp
              clear hK K
              simp only [Act.put, List.setIfInBounds_toArray, List.set_cons_succ, List.set_cons_zero]
              refine Go.BigFrame.wpQuiet_want (by rfl) (fun K hK => ⟨.bool true, fun WQ hWQ => ?_, hK _ ?_⟩)
              · clear hK
                unfold Oper.quietAt
                go_simp
              clear hK K
              simp only [Act.put, List.setIfInBounds_toArray, List.set_cons_succ, List.set_cons_zero]
              refine wpQuiet_nil ?_
              intro W7 hb7
              have HO7 := Lib.hid (KeepsOthers.trans (others_of_below hb7) (KeepsOthers.refl _))
              have HK7 := Lib.hid (Keeps.of_below (n₀ := w.heap.size) (B := w8.heap.size + 2) hb7 HB.out.size)
              have HB7 := Lib.hid (trans' HB.out hb7)
              have HW7 := Lib.hid (keepb hb7 HW.out)
              have HY7 := Lib.hid (keepb hb7 HY.out)
              have HX7 := Lib.hid (keepb hb7 HX.out)
              have HR7 := Lib.hid (keepb hb7 HR.out)
              have HV7 := Lib.hid (keepb hb7 HV.out)
              clear hb7
              obtain ⟨v0, v1, f0, f1⟩ := two_cells HV7.out
              gi_wp2_with fail
              obtain ⟨s1, s2⟩ := HSZ.out
              refine ⟨HO7.out.trans ((KeepsOthers.setCell _ _ _).trans (KeepsOthers.setCell _ _ _)), HK7.out.trans ((Keeps.set (by omega) (by omega) _).trans (Keeps.set (by omega) (by omega) _)), setC (setC HB7.out (by omega) _) (by omega) _, heap_ne (by omega) (heap_ne (by omega) HW7.out), heap_ne (by omega) (heap_ne (by omega) HY7.out), heap_ne (by omega) (heap_ne (by omega) HX7.out), heap_ne (by omega) (heap_ne (by omega) HR7.out), ?_⟩
              rw [HQ.out]
              exact set_block (set_block HV7.out)
          · by_cases c2 : b < t
            · have HQ : Hid (MF (pre ++ [t]) = (a, t)) := HQT.out.trans (by rw [if_pos c3, show min a t = a from by omega, show max b t = t from by omega])
              gi_wp2_with fail
              refine region_round (by kernel_rfl) (by kernel_rfl) (no_defer (by kernel_rfl)) (fun W' => Below W.heap.size W W') (Below.refl _ W).drew ?_
              refine Go.BigFrame.wpQuiet_want (by rfl) (fun K hK => ⟨.agg #[.string nm, .int .i64 bend, .slice sp n cap], fun WQ hWQ => ?_, hK _ ?_⟩)
              · clear hK
                obtain ⟨q0, q1, q2⟩ := cells3 (keepb hWQ HW.out)
                unfold Oper.quietAt
                go_simp
              clear hK K
              simp only [Act.put, List.setIfInBounds_toArray, List.set_cons_succ, List.set_cons_zero]
              refine Go.BigFrame.wpQuiet_want (by rfl) (fun K hK => ⟨.int .i64 t, fun WQ hWQ => ?_, hK _ ?_⟩)
              · clear hK
                unfold Oper.quietAt
                go_simp
              clear hK K
              simp only [Act.put, List.setIfInBounds_toArray, List.set_cons_succ, List.set_cons_zero]
              refine Go.BigFrame.wpQuiet_want (by rfl) (fun K hK => ⟨.agg #[.int .i64 x, .int .i64 y, .int .i64 z], fun WQ hWQ => ?_, hK _ ?_⟩)
              · clear hK
                obtain ⟨q0, q1, q2⟩ := cells3 (keepb hWQ HY.out)
                unfold Oper.quietAt
                go_simp
              clear hK K
              simp only [Act.put, List.setIfInBounds_toArray, List.set_cons_succ, List.set_cons_zero]
              refine Go.BigFrame.wpQuiet_want (by rfl) (fun K hK => ⟨.agg #[.int .i64 (FL t), .int .i64 (FH t)], fun WQ hWQ => ?_, hK _ ?_⟩)
              · clear hK
                unfold Oper.quietAt
                go_simp
                exact HC.out WQ hWQ
              clear hK K
              simp only [Act.put, List.setIfInBounds_toArray, List.set_cons_succ, List.set_cons_zero]
              refine Go.BigFrame.wpQuiet_want (by rfl) (fun K hK => ⟨.int .i64 (FL t), fun WQ hWQ => ?_, hK _ ?_⟩)
              · clear hK
                have hf := HFL.out
                unfold Oper.quietAt
                go_simp
              clear hK K
              simp only [Act.put, List.setIfInBounds_toArray, List.set_cons_succ, List.set_cons_zero]
              refine Go.BigFrame.wpQuiet_want (by rfl) (fun K hK => ⟨.int .i64 bd, fun WQ hWQ => ?_, hK _ ?_⟩)
              · clear hK
                have q0 := cells_one (keepb hWQ HX.out)
                unfold Oper.quietAt
                go_simp
              clear hK K
              simp only [Act.put, List.setIfInBounds_toArray, List.set_cons_succ, List.set_cons_zero]
              refine Go.BigFrame.wpQuiet_want (by rfl) (fun K hK => ⟨.bool true, fun WQ hWQ => ?_, hK _ ?_⟩)
              · clear hK
                unfold Oper.quietAt
                go_simp
              clear hK K
              simp only [Act.put, List.setIfInBounds_toArray, List.set_cons_succ, List.set_cons_zero]
              refine wpQuiet_nil ?_
              intro W7 hb7
              have HO7 := Lib.hid (KeepsOthers.trans (others_of_below hb7) (KeepsOthers.refl _))
              have HK7 := Lib.hid (Keeps.of_below (n₀ := w.heap.size) (B := w8.heap.size + 2) hb7 HB.out.size)
              have HB7 := Lib.hid (trans' HB.out hb7)
              have HW7 := Lib.hid (keepb hb7 HW.out)
              have HY7 := Lib.hid (keepb hb7 HY.out)
              have HX7 := Lib.hid (keepb hb7 HX.out)
              have HR7 := Lib.hid (keepb hb7 HR.out)
              have HV7 := Lib.hid (keepb hb7 HV.out)
              clear hb7
              obtain ⟨v0, v1, f0, f1⟩ := two_cells HV7.out
              gi_wp2_with fail
              obtain ⟨s1, s2⟩ := HSZ.out
              refine ⟨HO7.out.trans ((KeepsOthers.setCell _ _ _).trans (KeepsOthers.setCell _ _ _)), HK7.out.trans ((Keeps.set (by omega) (by omega) _).trans (Keeps.set (by omega) (by omega) _)), setC (setC HB7.out (by omega) _) (by omega) _, heap_ne (by omega) (heap_ne (by omega) HW7.out), heap_ne (by omega) (heap_ne (by omega) HY7.out), heap_ne (by omega) (heap_ne (by omega) HX7.out), heap_ne (by omega) (heap_ne (by omega) HR7.out), ?_⟩
              rw [HQ.out]
              exact set_block (set_block HV7.out)
            · have HQ : Hid (MF (pre ++ [t]) = (a, b)) := HQT.out.trans (by rw [if_pos c3, show min a t = a from by omega, show max b t = b from by omega])
              gi_wp2_with fail
              refine region_round (by kernel_rfl) (by kernel_rfl) (no_defer (by kernel_rfl)) (fun W' => Below W.heap.size W W') (Below.refl _ W).drew ?_
              refine Go.BigFrame.wpQuiet_want (by rfl) (fun K hK => ⟨.agg #[.string nm, .int .i64 bend, .slice sp n cap], fun WQ hWQ => ?_, hK _ ?_⟩)
              · clear hK
                obtain ⟨q0, q1, q2⟩ := cells3 (keepb hWQ HW.out)
                unfold Oper.quietAt
                go_simp
              clear hK K
              simp only [Act.put, List.setIfInBounds_toArray, List.set_cons_succ, List.set_cons_zero]
              refine Go.BigFrame.wpQuiet_want (by rfl) (fun K hK => ⟨.int .i64 t, fun WQ hWQ => ?_, hK _ ?_⟩)
              · clear hK
                unfold Oper.quietAt
                go_simp
              clear hK K
              simp only [Act.put, List.setIfInBounds_toArray, List.set_cons_succ, List.set_cons_zero]
              refine Go.BigFrame.wpQuiet_want (by rfl) (fun K hK => ⟨.agg #[.int .i64 x, .int .i64 y, .int .i64 z], fun WQ hWQ => ?_, hK _ ?_⟩)
              · clear hK
                obtain ⟨q0, q1, q2⟩ := cells3 (keepb hWQ HY.out)
                unfold Oper.quietAt
                go_simp
              clear hK K
              simp only [Act.put, List.setIfInBounds_toArray, List.set_cons_succ, List.set_cons_zero]
              refine Go.BigFrame.wpQuiet_want (by rfl) (fun K hK => ⟨.agg #[.int .i64 (FL t), .int .i64 (FH t)], fun WQ hWQ => ?_, hK _ ?_⟩)
              · clear hK
                unfold Oper.quietAt
                go_simp
                exact HC.out WQ hWQ
              clear hK K
              simp only [Act.put, List.setIfInBounds_toArray, List.set_cons_succ, List.set_cons_zero]
              refine Go.BigFrame.wpQuiet_want (by rfl) (fun K hK => ⟨.int .i64 (FL t), fun WQ hWQ => ?_, hK _ ?_⟩)
              · clear hK
                have hf := HFL.out
                unfold Oper.quietAt
                go_simp
              clear hK K
              simp only [Act.put, List.setIfInBounds_toArray, List.set_cons_succ, List.set_cons_zero]
              refine Go.BigFrame.wpQuiet_want (by rfl) (fun K hK => ⟨.int .i64 bd, fun WQ hWQ => ?_, hK _ ?_⟩)
              · clear hK
                have q0 := cells_one (keepb hWQ HX.out)
                unfold Oper.quietAt
                go_simp
              clear hK K
              simp only [Act.put, List.setIfInBounds_toArray, List.set_cons_succ, List.set_cons_zero]
              refine Go.BigFrame.wpQuiet_want (by rfl) (fun K hK => ⟨.bool true, fun WQ hWQ => ?_, hK _ ?_⟩)
              · clear hK
                unfold Oper.quietAt
                go_simp
              clear hK K
              simp only [Act.put, List.setIfInBounds_toArray, List.set_cons_succ, List.set_cons_zero]
              refine wpQuiet_nil ?_
              intro W7 hb7
              have HO7 := Lib.hid (KeepsOthers.trans (others_of_below hb7) (KeepsOthers.refl _))
              have HK7 := Lib.hid (Keeps.of_below (n₀ := w.heap.size) (B := w8.heap.size + 2) hb7 HB.out.size)
              have HB7 := Lib.hid (trans' HB.out hb7)
              have HW7 := Lib.hid (keepb hb7 HW.out)
              have HY7 := Lib.hid (keepb hb7 HY.out)
              have HX7 := Lib.hid (keepb hb7 HX.out)
              have HR7 := Lib.hid (keepb hb7 HR.out)
              have HV7 := Lib.hid (keepb hb7 HV.out)
              clear hb7
              obtain ⟨v0, v1, f0, f1⟩ := two_cells HV7.out
              gi_wp2_with fail
              obtain ⟨s1, s2⟩ := HSZ.out
              refine ⟨HO7.out.trans ((KeepsOthers.setCell _ _ _).trans (KeepsOthers.setCell _ _ _)), HK7.out.trans ((Keeps.set (by omega) (by omega) _).trans (Keeps.set (by omega) (by omega) _)), setC (setC HB7.out (by omega) _) (by omega) _, heap_ne (by omega) (heap_ne (by omega) HW7.out), heap_ne (by omega) (heap_ne (by omega) HY7.out), heap_ne (by omega) (heap_ne (by omega) HX7.out), heap_ne (by omega) (heap_ne (by omega) HR7.out), ?_⟩
              rw [HQ.out]
              exact set_block (set_block HV7.out)
        · have HQ : Hid (MF (pre ++ [t]) = (a, b)) := HQT.out.trans (if_neg c3)
          gi_wp2_with fail
          refine region_round (by kernel_rfl) (by kernel_rfl) (no_defer (by kernel_rfl)) (fun W' => Below W.heap.size W W') (Below.refl _ W).drew ?_
          refine Go.BigFrame.wpQuiet_want (by rfl) (fun K hK => ⟨.agg #[.string nm, .int .i64 bend, .slice sp n cap], fun WQ hWQ => ?_, hK _ ?_⟩)
          · clear hK
            obtain ⟨q0, q1, q2⟩ := cells3 (keepb hWQ HW.out)
            unfold Oper.quietAt
            go_simp
          clear hK K
          simp only [Act.put, List.setIfInBounds_toArray, List.set_cons_succ, List.set_cons_zero]
          refine Go.BigFrame.wpQuiet_want (by rfl) (fun K hK => ⟨.int .i64 t, fun WQ hWQ => ?_, hK _ ?_⟩)
          · clear hK
            unfold Oper.quietAt
            go_simp
          clear hK K
          simp only [Act.put, List.setIfInBounds_toArray, List.set_cons_succ, List.set_cons_zero]
          refine Go.BigFrame.wpQuiet_want (by rfl) (fun K hK => ⟨.agg #[.int .i64 x, .int .i64 y, .int .i64 z], fun WQ hWQ => ?_, hK _ ?_⟩)
          · clear hK
            obtain ⟨q0, q1, q2⟩ := cells3 (keepb hWQ HY.out)
            unfold Oper.quietAt
            go_simp
          clear hK K
          simp only [Act.put, List.setIfInBounds_toArray, List.set_cons_succ, List.set_cons_zero]
          refine Go.BigFrame.wpQuiet_want (by rfl) (fun K hK => ⟨.agg #[.int .i64 (FL t), .int .i64 (FH t)], fun WQ hWQ => ?_, hK _ ?_⟩)
          · clear hK
            unfold Oper.quietAt
            go_simp
            exact HC.out WQ hWQ
          clear hK K
          simp only [Act.put, List.setIfInBounds_toArray, List.set_cons_succ, List.set_cons_zero]
          refine Go.BigFrame.wpQuiet_want (by rfl) (fun K hK => ⟨.int .i64 (FL t), fun WQ hWQ => ?_, hK _ ?_⟩)
          · clear hK
            have hf := HFL.out
            unfold Oper.quietAt
            go_simp
          clear hK K
          simp only [Act.put, List.setIfInBounds_toArray, List.set_cons_succ, List.set_cons_zero]
          refine Go.BigFrame.wpQuiet_want (by rfl) (fun K hK => ⟨.int .i64 bd, fun WQ hWQ => ?_, hK _ ?_⟩)
          · clear hK
            have q0 := cells_one (keepb hWQ HX.out)
            unfold Oper.quietAt
            go_simp
          clear hK K
          simp only [Act.put, List.setIfInBounds_toArray, List.set_cons_succ, List.set_cons_zero]
          refine Go.BigFrame.wpQuiet_want (by rfl) (fun K hK => ⟨.bool false, fun WQ hWQ => ?_, hK _ ?_⟩)
          · clear hK
            unfold Oper.quietAt
            go_simp
          clear hK K
          simp only [Act.put, List.setIfInBounds_toArray, List.set_cons_succ, List.set_cons_zero]
          refine wpQuiet_nil ?_
          intro W7 hb7
          have HO7 := Lib.hid (KeepsOthers.trans (others_of_below hb7) (KeepsOthers.refl _))
          have HK7 := Lib.hid (Keeps.of_below (n₀ := w.heap.size) (B := w8.heap.size + 2) hb7 HB.out.size)
          have HB7 := Lib.hid (trans' HB.out hb7)
          have HW7 := Lib.hid (keepb hb7 HW.out)
          have HY7 := Lib.hid (keepb hb7 HY.out)
          have HX7 := Lib.hid (keepb hb7 HX.out)
          have HR7 := Lib.hid (keepb hb7 HR.out)
          have HV7 := Lib.hid (keepb hb7 HV.out)
          clear hb7
          gi_wp2_with fail
          exact ⟨HO7.out, HK7.out, HB7.out, HW7.out, HY7.out, HX7.out, HR7.out, by rw [HQ.out]; exact HV7.out⟩
      case done =>
        rintro D W hD ⟨hB, -, -, -, hr, hv⟩ hK
        rw [← HMB.out] at hv
        obtain ⟨v0, v1, -, -⟩ := two_cells hv
        obtain ⟨r0, r1, f0, f1⟩ := two_cells hr
        have HB := Lib.hid hB
        have HK := Lib.hid hK
        have HR := Lib.hid hr
        clear hB hK hr hv
        go_wp2_with fail
        have hdl : w.heap.size + 1 + 1 + 1 < D := by omega
        obtain ⟨Wf, hWf⟩ : ∃ Wf, Wf = (W.setCell ⟨w.heap.size + 1 + 1, 0, none⟩ (.int .i64 MB.1)).setCell ⟨w.heap.size + 1 + 1, 1, none⟩ (.int .i64 MB.2) := ⟨_, rfl⟩
        rw [← hWf]
        have h6 : Wf.heap[w.heap.size + 1 + 1]? = some (.cells #[.int .i64 MB.1, .int .i64 MB.2] 42 (0, 0)) := by rw [hWf]; exact set_block (set_block HR.out)
        have hk : Wf.heap[D]? = some (.deferred (some [])) := by rw [hWf]; exact heap_ne (by omega) (heap_ne (by omega) HK.out)
        have hbf : Below w.heap.size w Wf := by rw [hWf]; exact setC (setC HB.out (by omega) _) (by omega) _
        clear hWf r0 r1 f0 f1 v0 v1
        have c6 : ∀ o, (Wf.putObj D o).cell? ⟨w.heap.size + 1 + 1, 0, none⟩ = some (.int .i64 MB.1) := fun o => (two_cells ((World.putObj_heap_other (by omega)).trans h6)).1
        have c7 : ∀ o, (Wf.putObj D o).cell? ⟨w.heap.size + 1 + 1, 1, none⟩ = some (.int .i64 MB.2) := fun o => (two_cells ((World.putObj_heap_other (by omega)).trans h6)).2.1
        refine ⟨by simp, .inl ⟨_, _, rfl, run_takeDeferred hk, ?_⟩⟩
        refine ⟨.tuple #[.agg #[.int .i64 MB.1, .int .i64 MB.2], .int .i64 wn, .int .i64 0], ?_, rfl, hbf.trans (belowK_b (w := w8) hb86 Wf D _ _ hD hk rfl rfl)⟩
        simp [results, Try.f38, go_sem, c6, c7]
      case stop =>
        rintro D c pre W _ _ h _
        exact h.elim
  · all_goals
      have q := two_cells HR5.out
      obtain ⟨q0, q1, f0, f1⟩ := q
      go_wp2_with fail
      refine ⟨.tuple #[.agg #[.int .i64 0, .int .i64 0], .int .i64 0, .int .i64 E], ?_, rfl, setC (setC HB5.out (by omega) _) (by omega) _⟩
      have h6 := set_block (i := 1) (u := .int .i64 0) (set_block (i := 0) (u := .int .i64 0) HR5.out)
      obtain ⟨c6, c7, -, -⟩ := two_cells h6
      simp [results, Try.f38, go_sem, c6, c7]
end Go.Proofs.Ytodpjhhogcfodaa.Orb
