import Derived.Test.YtmbolmmcfnfamaaRv
import Derived.RegionIn
import Derived.Outline
namespace Go.Proofs.Ytmbolmmcfnfamaa.Orb
open Go.RowKit Lib

theorem Calm.below {B : Nat} {w : World} (h : w.heap.size ≤ B) : Calm B (fun W => Below w.heap.size w W) :=
  ⟨fun _ _ h1 h2 => trans' h1 h2, fun A l o o' h1 h2 h3 _ => h1.trans ((Below.refl _ A).grown (grownBy_putObj' A l o') (by have := (Array.getElem?_eq_some_iff.1 h3).1; have := h1.size; omega) (fun k e => by cases e; omega))⟩
theorem Calm.blk {B b : Nat} {o : Obj} (h : b < B) : Calm B (fun W => W.heap[b]? = some o) :=
  ⟨fun _ _ h1 h2 => keepb h2 h1, fun _ _ _ _ h1 h2 _ _ => (World.putObj_heap_other (by omega)).trans h1⟩
theorem Calm.and {B : Nat} {I J : World → Prop} (h : Calm B I) (k : Calm B J) : Calm B (fun W => I W ∧ J W) :=
  ⟨fun A C h1 h2 => ⟨h.grow A C h1.1 h2, k.grow A C h1.2 h2⟩, fun A l o o' h1 h2 h3 h4 => ⟨h.put A l o o' h1.1 h2 h3 h4, k.put A l o o' h1.2 h2 h3 h4⟩⟩
theorem Calm.pure {B : Nat} {p : Prop} : Calm B (fun _ => p) := ⟨fun _ _ h _ => h, fun _ _ _ _ h _ _ _ => h⟩

theorem Keeps.set {n₀ B b i : Nat} {W : World} (h1 : n₀ ≤ b) (h2 : b ≠ B) (v : Value) : Keeps n₀ B W (W.setCell ⟨b, i, none⟩ v) :=
  ⟨(Below.refl n₀ W).setCell (p := ⟨b, i, none⟩) h1 v, fun _ => Below.heap_setCell _ _ _ _ (by show B ≠ b; omega)⟩

/-- the first one at which a number is least -/
def leastOf (F : Int → Int) (first : Int) (l : List Int) : Int × Int := l.foldl (fun acc t => if F t < acc.2 then (t, F t) else acc) (first, F first)
theorem leastOf_snoc (F : Int → Int) (first : Int) (l : List Int) (t : Int) : leastOf F first (l ++ [t]) = if F t < (leastOf F first l).2 then (t, F t) else leastOf F first l := by unfold leastOf; rw [List.foldl_append]; rfl

attribute [local go_sem] Oper.semAt_some

set_option maxRecDepth 100000 in
set_option maxHeartbeats 4000000 in
theorem least_any (v : Value) (nm : ByteArray) (bend : Int) (L : List St) (hR : Rt bend L) (g : FuncId) (eg : ∀ args w, (callFunc g args).run Try.prog w = .ok (.enter g args) w) (lb : Array Value) (F : Int → Int) (w : World) (hv : OV w v nm bend L)
    (hF : ∀ t, fst L ≤ t → t ≤ lst L → ∀ W, Below w.heap.size w W → Calls Try.prog g (#[.int .i64 t] ++ lb) W fun e w' => e = .returned (.int .i64 (F t)) ∧ Below W.heap.size W w') :
    Calls Try.prog 55 #[v, .func (.func g) #[] lb] w fun e w' => e = .returned (.tuple #[.int .i64 (leastOf F (fst L) (ticksOf (fst L) (nTicks L))).1, .int .i64 (leastOf F (fst L) (ticksOf (fst L) (nTicks L))).2]) ∧ Below w.heap.size w w' := by
  have n0 := hR.n0
  have n1 := hR.n1
  have hlo : 0 ≤ fst L := (hR.st 0 (by omega)).t0
  have hhi : lst L ≤ 1000000000 := (hR.st (L.length - 1) (by omega)).t1
  have hle : fst L ≤ lst L := hR.le 0 (L.length - 1) (Nat.zero_le _) (by omega)
  have HIT := Lib.hid (fun W (h : Below w.heap.size w W) => ticks_iter v nm bend L (by omega) (by omega) hle hlo hhi 4 (by decide) w W hv h)
  have HFT := Lib.hid (show ∀ pre x, pre ++ [x] <+: ticksOf (fst L) (nTicks L) → fst L ≤ x ∧ x ≤ lst L by
    intro pre x h
    have hx : x ∈ ticksOf (fst L) (nTicks L) := h.subset (by simp)
    obtain ⟨i, hi, rfl⟩ := List.mem_map.1 hx
    have := List.mem_range.1 hi
    unfold nTicks at this
    omega)
  have HF := Lib.hid hF
  have CF0 := Lib.hid (hF (fst L) (Int.le_refl _) hle)
  obtain ⟨sp, cap, rfl, -, -, hS⟩ := hv.form
  obtain ⟨b, o, rfl, hT⟩ := hS (by omega)
  have hf : (gt L 0).t = fst L := rfl
  have HC0 := Lib.hid (show ∀ W, Below w.heap.size w W → W.cell? ⟨b, o, none⟩ = some (.int .i64 (fst L)) by
    intro W h
    have c0 := (hT.next h 0 (by omega)).1
    rw [Nat.zero_mul, Nat.add_zero, hf] at c0
    exact c0)
  clear hS hT hv hF hR hf hlo hhi hle
  generalize ticksOf (fst L) (nTicks L) = xs at *
  generalize fst L = f at *
  generalize lst L = la at *
  generalize L.length = ln at *
  obtain ⟨W0, hW0⟩ : ∃ W0, W0 = (w.alloc (.cells #[.string nm, .int .i64 bend, .slice (some ⟨b, o, none⟩) ln cap] 73)).alloc (.cells #[.func (.func g) #[] lb] 97) := ⟨_, rfl⟩
  have HW0 := Lib.hid hW0
  have HB0 := Lib.hid (show Below w.heap.size w W0 by rw [hW0]; (repeat (first | with_reducible exact Below.refl _ _ | with_reducible refine alloc1 ?_ _ | with_reducible refine Below.drew ?_ | with_reducible refine drewN1 ?_ _ | with_reducible refine setC ?_ (by omega) _)))
  have HP0 := Lib.hid (show W0.heap[w.heap.size]? = some (.cells #[.string nm, .int .i64 bend, .slice (some ⟨b, o, none⟩) ln cap] 73 (0, 0)) by rw [hW0]; (repeat (first | ((with_reducible refine hnew ?_); (simp; done)) | with_reducible refine hdrew ?_ | with_reducible refine hold ?_)))
  have HG0 := Lib.hid (show W0.heap[w.heap.size + 1]? = some (.cells #[.func (.func g) #[] lb] 97 (0, 0)) by rw [hW0]; (repeat (first | ((with_reducible refine hnew ?_); (simp; done)) | with_reducible refine hdrew ?_ | with_reducible refine hold ?_)))
  have HS0 := Lib.hid (show W0.heap.size = w.heap.size + 2 by rw [hW0]; simp)
  have c0 := HC0.out W0 HB0.out
  rw [hW0] at c0
  clear hW0
  refine (callsIn_wide (n := 5)).1 ?_
  refine callsIn_of_wp_marks Try.func55 rfl trivial ?_ rfl
  simp only [Try.ntmps55, List.size_toArray, List.length_cons, List.length_nil, Nat.reduceAdd, Nat.reduceSub, Array.replicate_succ, Array.replicate_zero, List.push_toArray, List.append_toArray, List.nil_append, List.cons_append]
  gi_wp2_with fail
  rw [← HW0.out]
  obtain ⟨W1, hW1⟩ : ∃ W1, W1 = W0.alloc (.cells #[.int .i64 f] 3) := ⟨_, rfl⟩
  rw [← hW1]
  have hb1 : Below W0.heap.size W0 W1 := by rw [hW1]; exact new_below _ _
  have HB1 := Lib.hid (trans' HB0.out hb1)
  have HP1 := Lib.hid (keepb hb1 HP0.out)
  have HG1 := Lib.hid (keepb hb1 HG0.out)
  have HX1 := Lib.hid (show W1.heap[w.heap.size + 1 + 1]? = some (.cells #[.int .i64 f] 3 (0, 0)) by rw [hW1, show w.heap.size + 1 + 1 = W0.heap.size from HS0.out.symm]; exact heap_alloc_new _ _)
  clear hW1 hb1 c0 HP0 HG0
  refine ⟨trivial, (callsIn_wide.2 (CF0.out _ HB1.out)).mono ?_⟩
  rintro e w2 ⟨rfl, hb2⟩
  have HB2 := Lib.hid (trans' HB1.out hb2)
  have HP2 := Lib.hid (keepb hb2 HP1.out)
  have HG2 := Lib.hid (keepb hb2 HG1.out)
  have HX2 := Lib.hid (keepb hb2 HX1.out)
  have hz := lt_of_block HX2.out
  have hz0 : w.heap.size < w2.heap.size := by omega
  obtain ⟨k0, k1, k2⟩ := cells3 HP2.out
  clear hb2 HB1 HP1 HG1 HX1
  gi_wp2_with fail
  obtain ⟨W3, hW3⟩ : ∃ W3, W3 = w2.alloc (.cells #[.int .i64 (F f)] 3) := ⟨_, rfl⟩
  rw [← hW3]
  have hb3 : Below w2.heap.size w2 W3 := by rw [hW3]; exact new_below _ _
  have HB3 := Lib.hid (trans' HB2.out hb3)
  have HG3 := Lib.hid (keepb hb3 HG2.out)
  have HX3 := Lib.hid (keepb hb3 HX2.out)
  have HY3 := Lib.hid (show W3.heap[w2.heap.size]? = some (.cells #[.int .i64 (F f)] 3 (0, 0)) by rw [hW3]; exact heap_alloc_new _ _)
  have hs3 : W3.heap.size = w2.heap.size + 1 := by rw [hW3]; simp
  have HS3 := Lib.hid hs3
  clear hW3 hb3 HB2 HG2 HX2 k0 k1 k2 HP2
  refine wpIn_over (n₀ := w.heap.size) (by decide) rfl enters_ticks (by omega) xs (HIT.out W3 HB3.out)
    (fun pre W => Below w.heap.size w W ∧ W.heap[w.heap.size + 1]? = some (.cells #[.func (.func g) #[] lb] 97 (0, 0)) ∧ W.heap[w.heap.size + 1 + 1]? = some (.cells #[.int .i64 (leastOf F f pre).1] 3 (0, 0)) ∧ W.heap[w2.heap.size]? = some (.cells #[.int .i64 (leastOf F f pre).2] 3 (0, 0)))
    (fun _ _ _ => False)
    (fun s => (Calm.below (by omega)).and ((Calm.blk (by omega)).and ((Calm.blk (by omega)).and (Calm.blk (by omega)))))
    (fun _ _ => Calm.pure)
    ⟨HB3.out, HG3.out, HX3.out, HY3.out⟩
    (fun x => { tmps := #[.agg #[.string nm, .int .i64 bend, .slice (some ⟨b, o, none⟩) ln cap], .func (.func g) #[] lb, .pointer (some ⟨w.heap.size, 0, none⟩), .pointer (some ⟨w.heap.size + 1, 0, none⟩), .int .i64 0, .int .i64 0, .pointer (some ⟨w.heap.size + 1 + 1, 0, none⟩), .pointer (some ⟨w2.heap.size, 0, none⟩), .int .i64 x, undef, .pointer (some ⟨w.heap.size, 0, none⟩), .pointer (some ⟨w.heap.size, 2, none⟩), .slice (some ⟨b, o, none⟩) ln cap, .pointer (some ⟨b, o, none⟩), .pointer (some ⟨b, o, none⟩), .int .i64 f, .func (.func g) #[] lb, .int .i64 f, .int .i64 (F f), .agg #[.string nm, .int .i64 bend, .slice (some ⟨b, o, none⟩) ln cap], .func (.func 40) #[.agg #[.string nm, .int .i64 bend, .slice (some ⟨b, o, none⟩) ln cap]] #[], .int .i64 x, undef, undef, undef, undef, undef, undef, undef, undef, undef, undef], defers := [] }) ?assign ?body ?done ?stop
  case assign =>
    intro l x W K hK
    gi_wp2_with fail
    exact hK
  case body =>
    rintro l pre x W ⟨hB, hg, hx, hy⟩ hpre hsz
    have HB := Lib.hid hB
    have kg := cells_one hg
    have HG := Lib.hid hg
    have HX := Lib.hid hx
    have HY := Lib.hid hy
    have hft := HFT.out pre x hpre
    have HSN := Lib.hid (leastOf_snoc F f pre x)
    have CF := Lib.hid (HF.out x hft.1 hft.2 W hB)
    clear hB hg hx hy
    gi_wp2_with fail
    refine ⟨trivial, (CallsIn.inRound l (callsIn_wide.2 CF.out)).mono ?_⟩
    rintro e w5 ⟨rfl, hb5⟩
    have HB5 := Lib.hid (trans' HB.out hb5)
    have HX5 := Lib.hid (keepb hb5 HX.out)
    have HY5 := Lib.hid (keepb hb5 HY.out)
    have HG5 := Lib.hid (keepb hb5 HG.out)
    have HK5 := Lib.hid (others_of_below hb5)
    have HE5 := Lib.hid (Keeps.of_below (n₀ := w.heap.size) (B := W3.heap.size + 2) hb5 HB.out.size)
    have kx := cells_one HX5.out
    have ky := cells_one HY5.out
    have fx := free_of_one HX5.out
    have fy := free_of_one HY5.out
    clear hb5 HX HY HG HB kg
    have hne : w.heap.size + 1 + 1 ≠ w2.heap.size := by omega
    generalize hlp : leastOf F f pre = lp at *
    obtain ⟨b1, b2⟩ := lp
    dsimp only at kx ky HSN
    have HLP := Lib.hid hlp
    clear hlp
    by_cases hc : F x < b2
    · rw [if_pos hc] at HSN
      gi_wp2_with fail
      refine ⟨HK5.out.trans ((KeepsOthers.setCell _ _ _).trans (KeepsOthers.setCell _ _ _)), HE5.out.trans ((Keeps.set (by omega) (by omega) _).trans (Keeps.set (by omega) (by omega) _)), setC (setC HB5.out (by omega) _) (by omega) _, heap_ne (by omega) (heap_ne (by omega) HG5.out), ?_, ?_⟩
      · rw [HSN.out]; exact heap_ne hne (one_setCell HX5.out)
      · rw [HSN.out]; exact one_setCell (heap_ne hne.symm HY5.out)
    · rw [if_neg hc] at HSN
      gi_wp2_with fail
      refine ⟨HK5.out, HE5.out, HB5.out, HG5.out, ?_, ?_⟩
      · rw [HSN.out]; exact HX5.out
      · rw [HSN.out]; exact HY5.out
  case done =>
    rintro D W hD ⟨hB, -, hx, hy⟩ hK
    have kx := cells_one hx
    have ky := cells_one hy
    have HB := Lib.hid hB
    have HK := Lib.hid hK
    clear hB hx hy hK
    gi_wp2_with fail
    gi_region
    gi_wp2_with fail
    have hK2 : W.drew.heap[D]? = some (.deferred (some [])) := HK.out
    refine ⟨by simp, .inl ⟨_, _, rfl, run_takeDeferred hK2, ?_⟩⟩
    refine ⟨.tuple #[.int .i64 (leastOf F f xs).1, .int .i64 (leastOf F f xs).2], ?_, rfl, HB.out.drew.trans (belowK_b (w := W3) (by omega) W.drew D _ _ hD hK2 rfl rfl)⟩
    simp [results, Try.f55, go_sem]
  case stop =>
    rintro D c pre W _ _ h _
    exact h.elim
end Go.Proofs.Ytmbolmmcfnfamaa.Orb
