import Derived.Test.YtmbolmmcfnfamaaRy
import Derived.Test.YtmbolmmcfnfamaaRz
import Derived.Deep.RegionHeld3
import Derived.Outline
import Derived.BigQuiet
namespace Go.Proofs.Ytmbolmmcfnfamaa.Orb
open Go.RowKit Lib

/-- the ranges of ticks near a place -/
def passTo (L : List St) (x y z m2 : Int) (l : List Int) : List (Int × Int) := l.foldl (fun R t => if nsq L t x y z ≤ m2 then growI R t else R) []
theorem passTo_snoc (L : List St) (x y z m2 : Int) (l : List Int) (t : Int) : passTo L x y z m2 (l ++ [t]) = if nsq L t x y z ≤ m2 then growI (passTo L x y z m2 l) t else passTo L x y z m2 l := by unfold passTo; rw [List.foldl_append]; rfl
theorem growI_length (R : List (Int × Int)) (t : Int) : (growI R t).length ≤ R.length + 1 := by
  unfold growI
  split
  · rename_i p hp
    have hne : R ≠ [] := by intro h; rw [h] at hp; cases hp
    have := List.length_pos_iff.2 hne
    split <;> simp
  · simp
theorem passTo_length (L : List St) (x y z m2 : Int) (l : List Int) : (passTo L x y z m2 l).length ≤ l.length := by
  have key : ∀ (l : List Int) (R : List (Int × Int)), (l.foldl (fun R t => if nsq L t x y z ≤ m2 then growI R t else R) R).length ≤ R.length + l.length := by
    intro l
    induction l with
    | nil => intro R; simp
    | cons t r ih =>
      intro R
      rw [List.foldl_cons, List.length_cons]
      by_cases hc : nsq L t x y z ≤ m2
      · rw [if_pos hc]
        have h1 := ih (growI R t)
        have h2 := growI_length R t
        omega
      · rw [if_neg hc]
        have h1 := ih R
        omega
  simpa [passTo] using key l []
/-- the error of an orbit, a place, and a distance -/
def psE (ne bend : Int) (L : List St) (x y z most : Int) : Int := firstE [(orbE ne bend L).2, placeE x y z, rangeE most 0 100000000]
theorem psE_zero {ne bend : Int} {L : List St} {x y z most : Int} (h : psE ne bend L x y z most = 0) : (orbE ne bend L).2 = 0 ∧ ne = 0 ∧ Rt bend L ∧ placeE x y z = 0 ∧ 0 ≤ most ∧ most ≤ 100000000 := by
  unfold psE at h
  rw [firstE_zero_iff] at h
  have h1 := h _ (List.mem_cons_self ..)
  obtain ⟨h3, h4⟩ := Rt.of h1
  have h5 := (rangeE_zero _ _ _).1 (h (rangeE most 0 100000000) (by simp))
  exact ⟨h1, h3, h4, h _ (by simp), h5.1, h5.2⟩
theorem owns_below {w w' : World} {B e size n : Nat} {v : Value} {xs : List Value} (h : w.ownsRow B e size v n xs) (hb : Below w.heap.size w w') : w'.ownsRow B e size v n xs := by
  obtain ⟨h1, h2⟩ := h
  refine ⟨h1, ?_⟩
  rcases h2 with h2 | ⟨g, cap, cur, p1, p2, p3, p4⟩
  · exact .inl h2
  · exact .inr ⟨g, cap, cur, p1, p2, keepb hb p3, p4⟩
theorem owns_base {w : World} {B B' e size n : Nat} {v : Value} {xs : List Value} (h : w.ownsRow B e size v n xs) (hb : B' ≤ B) : w.ownsRow B' e size v n xs := by
  obtain ⟨h1, h2⟩ := h
  refine ⟨h1, ?_⟩
  rcases h2 with h2 | ⟨g, cap, cur, p1, p2, p4⟩
  · exact .inl h2
  · exact .inr ⟨g, cap, cur, p1, by omega, p4⟩
theorem owns_put {W : World} {base e s n l : Nat} {v : Value} {xs : List Value} {o o' : Obj} (h : W.ownsRow base e s v n xs) (ho : W.heap[l]? = some o) (hc : o.isCells = false) : (W.putObj l o').ownsRow base e s v n xs := by
  refine ⟨h.1, ?_⟩
  rcases h.2 with h3 | ⟨g, cap, cur, p1, p2, p3, p4⟩
  · exact .inl h3
  · refine .inr ⟨g, cap, cur, p1, p2, (World.putObj_heap_other (fun e => ?_)).trans p3, p4⟩
    subst e
    rw [p3] at ho
    cases ho
    cases hc
theorem owns_slice {W : World} {base e s n : Nat} {v : Value} {xs : List Value} (h : W.ownsRow base e s v n xs) : ∃ a n c, v = .slice a n c := by
  rcases h.2 with h3 | ⟨g, cap, cur, p1, -⟩
  · exact ⟨_, _, _, h3.1⟩
  · exact ⟨_, _, _, p1⟩
/-- a slice of ranges under way, its variable in a box -/
def Under (b : Nat) (base : Nat) (R : List (Int × Int)) (W : World) : Prop := ∃ v, W.heap[b]? = some (.cells #[v] 33 (0, 0)) ∧ W.ownsRow base 54 2 v R.length (rvI R)
theorem Calm.under {B b base : Nat} {R : List (Int × Int)} (h : b < B) : Calm B (Under b base R) := by
  exact ⟨fun A C ⟨v, h1, h2⟩ hb => ⟨v, keepb hb h1, owns_below h2 hb⟩, fun A l o o' ⟨v, h1, h2⟩ hl ho hc => ⟨v, (World.putObj_heap_other (by omega)).trans h1, owns_put h2 ho hc⟩⟩
/-- what Passes hands back -/
def PassR (E : Int) (R : List (Int × Int)) (w : World) (e : Ending) (w' : World) : Prop :=
  ∃ v, e = .returned (.tuple #[v, .int .i64 E]) ∧ Below w.heap.size w w' ∧ ((E = 0 ∧ w'.ownsRow w.heap.size 54 2 v R.length (rvI R)) ∨ (E ≠ 0 ∧ v = .slice none 0 0))

attribute [local go_sem] Oper.semAt_some

theorem no_defer {l : Nat} {ol : List Oper} (h : (ol.all fun o => match o.op with | .defer _ => false | _ => true) = true) : ∀ (i : Nat) o ρ, ol.toArray[i]? = some o → o.semAt (some l) ρ = execOp ρ o := by
  intro i o ρ ho
  refine Oper.semAt_some _ _ _ fun c hc => ?_
  have hm : o ∈ ol := List.mem_of_getElem? (by simpa using ho)
  have := List.all_eq_true.1 h o hm
  rw [hc] at this
  exact absurd this Bool.false_ne_true

set_option maxRecDepth 100000 in
set_option maxHeartbeats 8000000 in
theorem Passes_any (v : Value) (nm : ByteArray) (hs : nm.size ≤ 1000) (bend : Int) (L : List St) (hI : ∀ k, (gt L k).t ≤ 9223372036854775807) (x y z most : Int) (w : World) (hv : OV w v nm bend L) :
    Calls Try.prog 32 #[v, .agg #[.int .i64 x, .int .i64 y, .int .i64 z], .int .i64 most] w (PassR (psE (nameE nm) bend L x y z most) (passTo L x y z (most * most) (ticksOf (fst L) (nTicks L))) w) := by
  have CC := Lib.hid (fun W (h : Below w.heap.size w W) => check_any v nm hs bend L hI W (hv.next h))
  have CQ := Lib.hid (fun W => placeError_any x y z W)
  have CG := Lib.hid (fun W => rangeError_any most 0 100000000 W)
  have CF := Lib.hid (fun W => firstError3 (orbE (nameE nm) bend L).2 (placeE x y z) (rangeE most 0 100000000) W)
  obtain ⟨sp, cap, hvf, -, -, -⟩ := hv.form
  have HOK := Lib.hid (show psE (nameE nm) bend L x y z most = 0 → (∀ W, Below w.heap.size w W → Iter Try.prog 40 #[v] 4 w.heap.size (ticksOf (fst L) (nTicks L)) W) ∧
      (∀ pre t, pre ++ [t] <+: ticksOf (fst L) (nTicks L) → 0 ≤ t ∧ t ≤ 1000000000 ∧ pre.length ≤ 20001 ∧ ∀ W, Below w.heap.size w W → Calls Try.prog 57 #[v, .int .i64 t, .agg #[.int .i64 x, .int .i64 y, .int .i64 z]] W fun e w' => e = .returned (.int .i64 (nsq L t x y z)) ∧ Below W.heap.size W w') ∧ 0 ≤ most ∧ most ≤ 100000000 by
    intro h0
    obtain ⟨-, -, hR, hpl, m0, m1⟩ := psE_zero h0
    have n0 := hR.n0
    have n1 := hR.n1
    have hlo : 0 ≤ fst L := (hR.st 0 (by omega)).t0
    have hhi : lst L ≤ 1000000000 := (hR.st (L.length - 1) (by omega)).t1
    have hle : fst L ≤ lst L := hR.le 0 (L.length - 1) (Nat.zero_le _) (by omega)
    have harc : lst L - fst L ≤ 20000 := hR.arc (L.length - 1) (by omega)
    refine ⟨fun W h => ticks_iter v nm bend L (by omega) (by omega) hle hlo hhi 4 (by decide) w W hv h, fun pre t h => ?_, m0, m1⟩
    have hx : t ∈ ticksOf (fst L) (nTicks L) := h.subset (by simp)
    have hl := h.length_le
    rw [ticksOf_len] at hl
    obtain ⟨i, hi, rfl⟩ := List.mem_map.1 hx
    have := List.mem_range.1 hi
    have hnt : (nTicks L : Int) = lst L - fst L + 1 := by unfold nTicks; omega
    simp at hl
    exact ⟨by omega, by omega, by omega, fun W hW => nominalSquareAt_any v nm bend L hR _ (by omega) (by omega) x y z hpl W (hv.next hW)⟩)
  have hR : firstE [(orbE (nameE nm) bend L).2, placeE x y z, rangeE most 0 100000000] = psE (nameE nm) bend L x y z most := rfl
  have HSN := Lib.hid (passTo_snoc L x y z (most * most))
  have HLN := Lib.hid (passTo_length L x y z (most * most))
  have HP0 := Lib.hid (show passTo L x y z (most * most) [] = [] from rfl)
  rw [hR] at CF
  subst hvf
  clear hv hR hs hI
  generalize psE (nameE nm) bend L x y z most = E at *
  generalize (orbE (nameE nm) bend L).2 = e1 at *
  generalize placeE x y z = e2 at *
  generalize rangeE most 0 100000000 = e3 at *
  generalize ticksOf (fst L) (nTicks L) = xs at *
  generalize passTo L x y z (most * most) = PT at *
  generalize L.length = n at *
  have hw : E = 0 ∨ (E != 0) = true := by
    by_cases h : E = 0
    · exact .inl h
    · exact .inr (by rw [bne_iff_ne]; exact h)
  rcases hw with rfl | hne
  all_goals
    refine (callsIn_wide (n := 5)).1 ?_
    refine callsIn_of_wp_marks Try.func32 rfl trivial ?_ rfl
    simp only [Try.ntmps32, List.size_toArray, List.length_cons, List.length_nil, Nat.reduceAdd, Nat.reduceSub, Array.replicate_succ, Array.replicate_zero, List.push_toArray, List.append_toArray, List.nil_append, List.cons_append]
    refine wpIn_wide.2 ?_
    go_upto_region 2 with fail
    obtain ⟨W0, hW0⟩ : ∃ W0, W0 = (((w.alloc (.cells #[.string nm, .int .i64 bend, .slice sp n cap] 24)).alloc (.cells #[.int .i64 x, .int .i64 y, .int .i64 z] 43)).alloc (.cells #[.int .i64 most] 3)).alloc (.cells #[.string nm, .int .i64 bend, .slice sp n cap] 73) := ⟨_, rfl⟩
    rw [← hW0]
    have HB0 := Lib.hid (show Below w.heap.size w W0 by rw [hW0]; (repeat (first | with_reducible exact Below.refl _ _ | with_reducible refine alloc1 ?_ _ | with_reducible refine Below.drew ?_ | with_reducible refine drewN1 ?_ _ | with_reducible refine setC ?_ (by omega) _)))
    have HW0 := Lib.hid (show W0.heap[w.heap.size + 1 + 1 + 1]? = some (.cells #[.string nm, .int .i64 bend, .slice sp n cap] 73 (0, 0)) by rw [hW0]; (repeat (first | ((with_reducible refine hnew ?_); (simp; done)) | with_reducible refine hdrew ?_ | with_reducible refine hold ?_)))
    have HY0 := Lib.hid (show W0.heap[w.heap.size + 1]? = some (.cells #[.int .i64 x, .int .i64 y, .int .i64 z] 43 (0, 0)) by rw [hW0]; (repeat (first | ((with_reducible refine hnew ?_); (simp; done)) | with_reducible refine hdrew ?_ | with_reducible refine hold ?_)))
    have HM0 := Lib.hid (show W0.heap[w.heap.size + 1 + 1]? = some (.cells #[.int .i64 most] 3 (0, 0)) by rw [hW0]; (repeat (first | ((with_reducible refine hnew ?_); (simp; done)) | with_reducible refine hdrew ?_ | with_reducible refine hold ?_)))
    clear hW0
    obtain ⟨k0, k1, k2⟩ := cells3 HW0.out
    obtain ⟨y0, y1, y2⟩ := cells3 HY0.out
    have m0 := cells_one HM0.out
    go_region_held3 (fun W => W.cell? ⟨w.heap.size + 1 + 1 + 1, 0, none⟩ = some (.string nm) ∧ W.cell? ⟨w.heap.size + 1 + 1 + 1, 1, none⟩ = some (.int .i64 bend) ∧ W.cell? ⟨w.heap.size + 1 + 1 + 1, 2, none⟩ = some (.slice sp n cap) ∧ W.cell? ⟨w.heap.size + 1, 0, none⟩ = some (.int .i64 x) ∧ W.cell? ⟨w.heap.size + 1, 1, none⟩ = some (.int .i64 y) ∧ W.cell? ⟨w.heap.size + 1, 2, none⟩ = some (.int .i64 z) ∧ W.cell? ⟨w.heap.size + 1 + 1, 0, none⟩ = some (.int .i64 most)) (with_reducible refine ⟨keepc ?_ k0, keepc ?_ k1, keepc ?_ k2, keepc ?_ y0, keepc ?_ y1, keepc ?_ y2, keepc ?_ m0⟩ <;> (repeat (first | with_reducible exact Below.refl _ _ | with_reducible refine andThen ?_ hbC | with_reducible refine andThen ?_ hbP | with_reducible refine alloc1 ?_ _ | with_reducible refine Below.drew ?_ | with_reducible refine drewN1 ?_ _ | with_reducible refine setC ?_ (by omega) _)) <;> done)
      (first
        | (go_at_call 35; (with_reducible refine (CC.out _ (trans' HB0.out (by (repeat (first | with_reducible exact Below.refl _ _ | with_reducible refine andThen ?_ hbP | with_reducible refine alloc1 ?_ _ | with_reducible refine Below.drew ?_ | with_reducible refine drewN1 ?_ _ | with_reducible refine setC ?_ (by omega) _))))).mono ?_); rintro e wC ⟨rfl, hbC⟩)
        | (go_at_call 53; (with_reducible refine (CQ.out _).mono ?_); rintro e wP ⟨rfl, hbP⟩)
        | (go_at_call 58; (with_reducible refine (CG.out _).mono ?_); rintro e w1 ⟨rfl, rfl⟩)
        | (go_at_call 34; (with_reducible refine (CF.out _).mono ?_); rintro e w1 ⟨rfl, rfl⟩))
  · all_goals
      first
        | (obtain ⟨W5, hW5⟩ : ∃ W5, W5 = wP.alloc (.cells #[.int .i64 e1, .int .i64 e2, .int .i64 e3] 29) := ⟨_, rfl⟩; rw [← hW5])
        | (obtain ⟨W5, hW5⟩ : ∃ W5, W5 = wC.alloc (.cells #[.int .i64 e1, .int .i64 e2, .int .i64 e3] 29) := ⟨_, rfl⟩; rw [← hW5])
      have hb5 : Below W0.heap.size W0 W5 := by rw [hW5]; (repeat (first | with_reducible exact Below.refl _ _ | with_reducible refine andThen ?_ hbC | with_reducible refine andThen ?_ hbP | with_reducible refine alloc1 ?_ _ | with_reducible refine Below.drew ?_ | with_reducible refine drewN1 ?_ _ | with_reducible refine setC ?_ (by omega) _))
      have HB5 := Lib.hid (trans' HB0.out hb5)
      first
        | (generalize Value.slice (some ⟨wP.heap.size, 0, none⟩) 3 3 = s20 at *; trace "P")
        | (generalize Value.slice (some ⟨wC.heap.size, 0, none⟩) 3 3 = s20 at *; trace "C")
      have HW5 := Lib.hid (keepb hb5 HW0.out)
      have HY5 := Lib.hid (keepb hb5 HY0.out)
      have HM5 := Lib.hid (keepb hb5 HM0.out)
      obtain ⟨k0, k1, k2⟩ := cells3 HW5.out
      have hl5 := lt_of_block HW5.out
      clear hW5 hb5 y0 y1 y2 m0
      obtain ⟨HIT, HRD, hm0, hm1⟩ := HOK.out trivial
      have HIT := Lib.hid HIT
      have HRD := Lib.hid HRD
      have HWR := Lib.hid (show IntKind.i64.wrap (most * most) = most * most by
        have h1 : 0 ≤ most * most := Int.mul_nonneg hm0 hm0
        have h2 : most * most ≤ 100000000 * 100000000 := Int.mul_le_mul hm1 hm1 hm0 (by decide)
        exact IntWalk.i64_in _ (by omega))
      go_wp2_with fail
      obtain ⟨W6, hW6⟩ : ∃ W6, W6 = W5.alloc (.cells #[.slice none 0 0] 33) := ⟨_, rfl⟩
      rw [← hW6]
      have hs6 : W6.heap.size = W5.heap.size + 1 := by rw [hW6]; simp
      have HS6 := Lib.hid hs6
      have hb6 : Below W5.heap.size W5 W6 := by rw [hW6]; exact new_below _ _
      have HB6 := Lib.hid (trans' HB5.out hb6)
      have HW6 := Lib.hid (keepb hb6 HW5.out)
      have HY6 := Lib.hid (keepb hb6 HY5.out)
      have HM6 := Lib.hid (keepb hb6 HM5.out)
      have HU6 := Lib.hid (show Under W5.heap.size (W6.heap.size + 3) (PT []) W6 by
        rw [HP0.out]
        exact ⟨.slice none 0 0, by rw [hW6]; exact heap_alloc_new _ _, rfl, .inl ⟨rfl, rfl⟩⟩)
      clear hW6 hb6 k0 k1 k2 hbC
      have hl0 := hl5
      refine (wpIn_wide (n := 5)).1 (wpIn_over (n₀ := w.heap.size) (by decide) rfl enters_ticks (by omega) xs (HIT.out W6 HB6.out)
        (fun pre W => Below w.heap.size w W ∧ W.heap[w.heap.size + 1 + 1 + 1]? = some (.cells #[.string nm, .int .i64 bend, .slice sp n cap] 73 (0, 0)) ∧ W.heap[w.heap.size + 1]? = some (.cells #[.int .i64 x, .int .i64 y, .int .i64 z] 43 (0, 0)) ∧ W.heap[w.heap.size + 1 + 1]? = some (.cells #[.int .i64 most] 3 (0, 0)) ∧ Under W5.heap.size (W6.heap.size + 3) (PT pre) W)
        (fun _ _ _ => False)
        (fun s => (Calm.below (by omega)).and ((Calm.blk (by omega)).and ((Calm.blk (by omega)).and ((Calm.blk (by omega)).and (Calm.under (by omega))))))
        (fun _ _ => Calm.pure)
        ⟨HB6.out, HW6.out, HY6.out, HM6.out, HU6.out⟩
        (fun t => { tmps := #[.agg #[.string nm, .int .i64 bend, .slice sp n cap], .agg #[.int .i64 x, .int .i64 y, .int .i64 z], .int .i64 most, .pointer (some ⟨w.heap.size, 0, none⟩), .pointer (some ⟨w.heap.size + 1, 0, none⟩), .pointer (some ⟨w.heap.size + 1 + 1, 0, none⟩), .slice none 0 0, .int .i64 0, .pointer (some ⟨w.heap.size + 1 + 1 + 1, 0, none⟩), .int .i64 0, .pointer (some ⟨W5.heap.size, 0, none⟩), .int .i64 t, .agg #[.string nm, .int .i64 bend, .slice sp n cap], .agg #[.string nm, .int .i64 bend, .slice sp n cap], .agg #[.string nm, .int .i64 bend, .slice sp n cap], .int .i64 e1, .agg #[.int .i64 x, .int .i64 y, .int .i64 z], .int .i64 e2, .int .i64 most, .int .i64 e3, s20, .int .i64 0, .int .i64 0, .bool false, undef, .agg #[.string nm, .int .i64 bend, .slice sp n cap], .func (.func 40) #[.agg #[.string nm, .int .i64 bend, .slice sp n cap]] #[], .int .i64 t, undef, undef, undef, undef, undef, undef, undef, undef, undef, undef, undef, undef], defers := [] }) ?assign ?body ?done ?stop)
      case assign =>
        intro l x W K hK
        gi_wp2_with fail
        exact hK
      case body =>
        rintro l pre t W ⟨hB, hp, hy, hm, hu⟩ hpre hsz
        obtain ⟨t0, t1, tn, hcall⟩ := HRD.out pre t hpre
        have HC := Lib.hid (fun WQ (h : Below W.heap.size W WQ) => (hcall WQ (trans' hB h)).mono (fun e w' (h2 : e = .returned (.int .i64 (nsq L t x y z)) ∧ Below WQ.heap.size WQ w') => (⟨h2.1, andThen h h2.2⟩ : e = .returned (.int .i64 (nsq L t x y z)) ∧ Below W.heap.size W w')))
        have HSNt := Lib.hid (HSN.out pre t)
        have HLNt := Lib.hid (HLN.out pre)
        have HB := Lib.hid hB
        have HW := Lib.hid hp
        have HY := Lib.hid hy
        have HM := Lib.hid hm
        have HU := Lib.hid hu
        clear hcall hB hp hy hm hu hs6
        gi_wp2_with fail
        refine region_round (by kernel_rfl) (by kernel_rfl) (no_defer (by kernel_rfl)) (fun W' => Below W.heap.size W W') (Below.refl _ W).drew ?_
        refine Go.BigFrame.wpQuiet_want (by rfl) (fun K hK => ⟨.agg #[.string nm, .int .i64 bend, .slice sp n cap], fun WQ hWQ => ?_, hK _ ?_⟩)
        · obtain ⟨q0, q1, q2⟩ := cells3 (keepb hWQ HW.out)
          clear hK
          unfold Oper.quietAt
          go_simp
        clear hK K
        refine Go.BigFrame.wpQuiet_want (by rfl) (fun K hK => ⟨.int .i64 t, fun WQ hWQ => ?_, hK _ ?_⟩)
        · clear hK
          unfold Oper.quietAt
          go_simp
        clear hK K
        refine Go.BigFrame.wpQuiet_want (by rfl) (fun K hK => ⟨.agg #[.int .i64 x, .int .i64 y, .int .i64 z], fun WQ hWQ => ?_, hK _ ?_⟩)
        · obtain ⟨q0, q1, q2⟩ := cells3 (keepb hWQ HY.out)
          clear hK
          unfold Oper.quietAt
          go_simp
        clear hK K
        refine Go.BigFrame.wpQuiet_want (by rfl) (fun K hK => ⟨.int .i64 (nsq L t x y z), fun WQ hWQ => ?_, hK _ ?_⟩)
        · clear hK
          unfold Oper.quietAt
          go_simp
          exact HC.out WQ hWQ
        clear hK K
        refine Go.BigFrame.wpQuiet_want (by rfl) (fun K hK => ⟨.int .i64 most, fun WQ hWQ => ?_, hK _ ?_⟩)
        · have q0 := cells_one (keepb hWQ HM.out)
          clear hK
          unfold Oper.quietAt
          go_simp
        clear hK K
        refine Go.BigFrame.wpQuiet_want (by rfl) (fun K hK => ⟨.int .i64 most, fun WQ hWQ => ?_, hK _ ?_⟩)
        · have q0 := cells_one (keepb hWQ HM.out)
          clear hK
          unfold Oper.quietAt
          go_simp
        clear hK K
        refine Go.BigFrame.wpQuiet_want (by rfl) (fun K hK => ⟨.int .i64 (most * most), fun WQ hWQ => ?_, hK _ ?_⟩)
        · have hwr := HWR.out
          clear hK
          unfold Oper.quietAt
          go_simp
        clear hK K
        refine Go.BigFrame.wpQuiet_want (by rfl) (fun K hK => ⟨.bool (decide (nsq L t x y z ≤ most * most)), fun WQ hWQ => ?_, hK _ ?_⟩)
        · clear hK
          unfold Oper.quietAt
          go_simp
        clear hK K
        refine wpQuiet_nil ?_
        simp only [Act.put, List.setIfInBounds_toArray, List.set_cons_succ, List.set_cons_zero]
        intro W7 hb7
        obtain ⟨v, hv, ho⟩ := HU.out
        have hv7 := keepb hb7 hv
        have HV7 := Lib.hid hv7
        have ho7 := owns_below ho hb7
        have hz7 := hb7.size
        have HO7 := Lib.hid (KeepsOthers.trans (others_of_below hb7) (KeepsOthers.refl _))
        have HK7 := Lib.hid (Keeps.of_below (n₀ := w.heap.size) (B := W6.heap.size + 2) hb7 HB.out.size)
        have HB7 := Lib.hid (trans' HB.out hb7)
        have HW7 := Lib.hid (keepb hb7 HW.out)
        have HY7 := Lib.hid (keepb hb7 HY.out)
        have HM7 := Lib.hid (keepb hb7 HM.out)
        have CT := Lib.hid (withTick_any (W6.heap.size + 3) v (PT pre) t t0 t1 (by have := HLNt.out; omega) W7 (by omega) ho7)
        have HOW7 := Lib.hid ho7
        have kv := cells_one hv7
        clear ho7 hv7 hv ho hb7
        by_cases hc : nsq L t x y z ≤ most * most
        · have HSNp := Lib.hid (HSNt.out.trans (if_pos hc))
          gi_wp2_with fail
          refine ⟨trivial, (CallsIn.inRound l (callsIn_wide.2 CT.out)).mono ?_⟩
          rintro e w8 ⟨v', rfl, ho8, hb8, hk8⟩
          obtain ⟨sa, sn, sc, rfl⟩ := owns_slice ho8
          have hv8 := (hb8.block W5.heap.size (by have := HS6.out; omega)).trans HV7.out
          have fv := free_of_one hv8
          have kv8 := cells_one hv8
          have HV8 := Lib.hid hv8
          have HO8 := Lib.hid ho8
          have HB8 := Lib.hid hb8
          have HK8 := Lib.hid hk8
          clear hv8 ho8 hb8 hk8 kv
          gi_wp2_with fail
          have hs6 := HS6.out
          refine ⟨(HO7.out.trans HK8.out).trans (KeepsOthers.setCell _ _ _), (HK7.out.trans ⟨HB8.out.mono (by omega), fun _ => HB8.out.block _ (by omega)⟩).trans (Keeps.set (by omega) (by omega) _), setC (HB7.out.trans (HB8.out.mono (by omega))) (by omega) _, heap_ne (by omega) ((HB8.out.block _ (by omega)).trans HW7.out), heap_ne (by omega) ((HB8.out.block _ (by omega)).trans HY7.out), heap_ne (by omega) ((HB8.out.block _ (by omega)).trans HM7.out), ?_⟩
          rw [HSNp.out]
          exact ⟨_, one_setCell HV8.out, owns_set HO8.out (by omega)⟩
        · have HSNp := Lib.hid (HSNt.out.trans (if_neg hc))
          gi_wp2_with fail
          refine ⟨HO7.out, HK7.out, HB7.out, HW7.out, HY7.out, HM7.out, ?_⟩
          rw [HSNp.out]
          exact ⟨v, HV7.out, HOW7.out⟩
      case done =>
        rintro D W hD ⟨hB, -, -, -, v, hv, ho⟩ hK
        have kv := cells_one hv
        have HB := Lib.hid hB
        have HK := Lib.hid hK
        have HO := Lib.hid ho
        clear hB hv hK ho hs6
        go_wp2_with fail
        have hs6 := HS6.out
        refine ⟨by simp, .inl ⟨_, _, rfl, run_takeDeferred HK.out, ?_⟩⟩
        refine ⟨.tuple #[v, .int .i64 0], ?_, _, rfl, HB.out.trans (belowK_b (w := W6) (by omega) W D _ _ hD HK.out rfl rfl), .inl ⟨rfl, ?_⟩⟩
        · simp [results, Try.f32, go_sem]
        · exact owns_base (owns_put HO.out HK.out rfl) (by omega)
      case stop =>
        rintro D c pre W _ _ h _
        exact h.elim
  · all_goals
      first
        | (obtain ⟨W5, hW5⟩ : ∃ W5, W5 = wP.alloc (.cells #[.int .i64 e1, .int .i64 e2, .int .i64 e3] 29) := ⟨_, rfl⟩; rw [← hW5])
        | (obtain ⟨W5, hW5⟩ : ∃ W5, W5 = wC.alloc (.cells #[.int .i64 e1, .int .i64 e2, .int .i64 e3] 29) := ⟨_, rfl⟩; rw [← hW5])
      have hb5 : Below W0.heap.size W0 W5 := by rw [hW5]; (repeat (first | with_reducible exact Below.refl _ _ | with_reducible refine andThen ?_ hbC | with_reducible refine andThen ?_ hbP | with_reducible refine alloc1 ?_ _ | with_reducible refine Below.drew ?_ | with_reducible refine drewN1 ?_ _ | with_reducible refine setC ?_ (by omega) _))
      have HB5 := Lib.hid (trans' HB0.out hb5)
      clear hW5 hb5 k0 k1 k2 y0 y1 y2 m0 hbC
      go_wp2_with fail
      refine ⟨.tuple #[.slice none 0 0, .int .i64 E], ?_, _, rfl, HB5.out, .inr ⟨by simpa using hne, rfl⟩⟩
      simp [results, Try.f32, go_sem]
end Go.Proofs.Ytmbolmmcfnfamaa.Orb
