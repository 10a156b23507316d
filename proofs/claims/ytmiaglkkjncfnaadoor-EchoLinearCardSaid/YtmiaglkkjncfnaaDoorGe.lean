import Derived.Test.YtmiaglkkjncfnaaDoorGd
namespace Go.Proofs.YtmiaglkkjncfnaaDoor
open Go.RowKit Go.Proofs.YtmiaglkkjncfnaaDoor.Flt

set_option maxRecDepth 100000 in
set_option maxHeartbeats 1000000 in
theorem refEnergy_any (L S : Nat) (v : Value) (zs : List (Nat × Nat)) (l s : Nat) (w : World) (hv : Sl w v (cvals .f64 zs)) (hz : ∀ z ∈ zs, z.1 < 2 ^ 64 ∧ z.2 < 2 ^ 64) (RR : Right .f64 1000000000 zs) (_hS : S ≤ 64) (hlen : zs.length ≤ 4096) (ht : l * S + s < zs.length) :
    Calls Tryd.prog 39 #[.agg #[.int .i64 L, .int .i64 S, v], .int .i64 l, .int .i64 s] w fun e w' => e = .returned (.int .i64 (enAt zs (l * S + s))) ∧ Below w.heap.size w w' := by
  obtain ⟨W0, hW0⟩ : ∃ W0, W0 = w.alloc (.cells #[.int .i64 L, .int .i64 S, v] 37) := ⟨_, rfl⟩
  have hb : Below w.heap.size w W0 := by rw [hW0]; exact (Below.refl _ _).alloc (Nat.le_refl _) _
  have H0 : W0.heap[w.heap.size]? = some (.cells #[.int .i64 L, .int .i64 S, v] 37 (0, 0)) := by rw [hW0]; exact heap_alloc_new _ _
  obtain ⟨p, hp⟩ : ∃ p, p = l * S := ⟨_, rfl⟩
  have hpi : (l : Int) * S = p := by rw [hp, Int.natCast_mul]
  rw [← hp] at ht ⊢
  have hpj : (p : Int) + s = ((p + s : Nat) : Int) := by omega
  obtain ⟨t, htt⟩ : ∃ t, t = p + s := ⟨_, rfl⟩
  rw [← htt] at hpj ht ⊢
  obtain ⟨a1, a2, a3, a4⟩ := RR t ht
  have hzt : (zs.getD t (0, 0)) ∈ zs := by rw [List.getD_eq_getElem?_getD, List.getElem?_eq_getElem ht]; exact List.getElem_mem ht
  have CP := Lib.hid (fun w => basePart_any (zs.getD t (0, 0)).1 (zs.getD t (0, 0)).2 (re .f64 zs t) (im .f64 zs t) (rep_wv good_double a1 (by show (re .f64 zs t).natAbs ≤ 2 ^ 53; omega)) (rep_wv good_double a2 (by show (im .f64 zs t).natAbs ≤ 2 ^ 53; omega)) (hz _ hzt).1 (hz _ hzt).2 (by omega) (by omega) w)
  have HE : Hid (enAt zs t = re .f64 zs t * re .f64 zs t + im .f64 zs t * im .f64 zs t) := rfl
  obtain ⟨m1, m2⟩ := sq_b a3
  obtain ⟨m3, m4⟩ := sq_b a4
  have HV := hv.below hb (Nat.le_refl _)
  obtain ⟨va, vc, rfl, hvl, -⟩ := hv
  have hn : (cvals .f64 zs).length = zs.length := by simp [cvals]
  rw [hn] at hvl H0 HV hW0 ⊢
  obtain ⟨-, b1, o1, rfl, q1, g1⟩ := HV.at (by omega)
  have d1 : W0.cell? ⟨b1, o1 + t, none⟩ = some (.complex .f64 (zs.getD t (0, 0)).1 (zs.getD t (0, 0)).2) := g1 t _ (cvals_get ht)
  obtain ⟨c0, c1, c2, -, -, -, lc⟩ := three_cells H0
  generalize enAt zs t = E at *
  generalize re .f64 zs t = a at *
  generalize im .f64 zs t = b at *
  generalize (zs.getD t (0, 0)).1 = z1 at *
  generalize (zs.getD t (0, 0)).2 = z2 at *
  have ht2 : (t : Int) < zs.length := by omega
  generalize zs.length = n at *
  have HB := Lib.hid hb
  clear g1 a1 a2 hp htt hn hzt hz RR hb H0 HV
  rw [HE.out]
  subst hW0
  go_enter Tryd.func39, Tryd.ntmps39
  go_wp2_with fail
  refine (CP.out _).mono ?_
  rintro e w' ⟨rfl, rfl⟩
  go_wp2_with fail
  go_ret
  exact ⟨rfl, HB.out⟩

/-- what holds at the head of the reference's loops, behind t samples -/
structure PkInv (zs : List (Nat × Nat)) (L S : Nat) (v : Value) (w : World) (t : Nat) (wr : World) : Prop where
  hb : Below w.heap.size w wr
  hx : wr.heap[w.heap.size]? = some (.cells #[.int .i64 L, .int .i64 S, v] 37 (0, 0))
  hr : wr.heap[w.heap.size + 1]? = some (.cells #[.int .i64 0, .int .i64 0] 59 (0, 0))
  hp : wr.heap[w.heap.size + 2]? = some (.cells #[.int .i64 (bestI (enAt zs) t / S : Nat), .int .i64 (bestI (enAt zs) t % S : Nat)] 59 (0, 0))
def mostAt (zs : List (Nat × Nat)) (t : Nat) : Int := if t = 0 then -1 else enAt zs (bestI (enAt zs) t)

theorem PkInv.next {zs : List (Nat × Nat)} {L S : Nat} {v : Value} {w wr w' : World} {t : Nat} (h : PkInv zs L S v w t wr) (hb : Below wr.heap.size wr w') : PkInv zs L S v w t w' :=
  ⟨h.hb.trans (hb.mono h.hb.size), (hb.block _ (lt_of_block h.hx)).trans h.hx, (hb.block _ (lt_of_block h.hr)).trans h.hr, (hb.block _ (lt_of_block h.hp)).trans h.hp⟩
theorem PkInv.keep {zs : List (Nat × Nat)} {L S : Nat} {v : Value} {w wr : World} {t : Nat} (h : PkInv zs L S v w t wr) (e : bestI (enAt zs) (t + 1) = bestI (enAt zs) t) : PkInv zs L S v w (t + 1) wr :=
  ⟨h.hb, h.hx, h.hr, by rw [e]; exact h.hp⟩
theorem PkInv.put {zs : List (Nat × Nat)} {L S : Nat} {v : Value} {w wr : World} {t l s : Nat} (h : PkInv zs L S v w t wr) (e : bestI (enAt zs) (t + 1) = t) (hl : t / S = l) (hs : t % S = s) :
    PkInv zs L S v w (t + 1) ((wr.setCell ⟨w.heap.size + 2, 0, none⟩ (.int .i64 l)).setCell ⟨w.heap.size + 2, 1, none⟩ (.int .i64 s)) := by
  refine ⟨(h.hb.setCell (p := ⟨w.heap.size + 2, 0, none⟩) (by show w.heap.size ≤ w.heap.size + 2; omega) _).setCell (p := ⟨w.heap.size + 2, 1, none⟩) (by show w.heap.size ≤ w.heap.size + 2; omega) _, ?_, ?_, ?_⟩
  · exact (Below.heap_setCell _ _ _ _ (by show w.heap.size ≠ w.heap.size + 2; omega)).trans ((Below.heap_setCell _ _ _ _ (by show w.heap.size ≠ w.heap.size + 2; omega)).trans h.hx)
  · exact (Below.heap_setCell _ _ _ _ (by show w.heap.size + 1 ≠ w.heap.size + 2; omega)).trans ((Below.heap_setCell _ _ _ _ (by show w.heap.size + 1 ≠ w.heap.size + 2; omega)).trans h.hr)
  · rw [e, hl, hs]
    have h1 : (wr.setCell ⟨w.heap.size + 2, 0, none⟩ (.int .i64 l)).heap[w.heap.size + 2]? = some (.cells #[.int .i64 l, .int .i64 (bestI (enAt zs) t % S : Nat)] 59 (0, 0)) := by
      rw [heap_setCell_same _ _ _ _ _ _ h.hp]; rfl
    rw [heap_setCell_same _ _ _ _ _ _ h1]; rfl

end Go.Proofs.YtmiaglkkjncfnaaDoor
