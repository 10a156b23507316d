import Derived.Test.YtadajelonekpmaaKb
namespace Go.Proofs.Ytadajelonekpmaa
open Go.RowKit Go.Proofs.Ytadajelonekpmaa.Flt

/-- the values of F written so far, and zeros -/
def partG (F : Nat → Nat × Nat) (n k : Nat) : List Value :=
  (List.range n).map fun i => if i < k then .complex .f32 (F i).1 (F i).2 else .complex .f32 0 0

theorem partG_zero (F : Nat → Nat × Nat) (n : Nat) : partG F n 0 = List.replicate n (.complex .f32 0 0) := by
  unfold partG
  simp
  exact (List.eq_replicate_iff.2 ⟨by simp, by simp⟩)

theorem partG_length (F : Nat → Nat × Nat) (n k : Nat) : (partG F n k).length = n := by simp [partG]

theorem partG_step (F : Nat → Nat × Nat) (n k : Nat) : (partG F n k).set k (.complex .f32 (F k).1 (F k).2) = partG F n (k + 1) := by
  apply List.ext_getElem
  · simp [partG]
  · intro i h1 h2
    rw [List.getElem_set]
    simp only [partG, List.getElem_map, List.getElem_range]
    by_cases h : k = i
    · subst h; simp
    · rw [if_neg h]
      by_cases h3 : i < k
      · rw [if_pos h3, if_pos (by omega)]
      · rw [if_neg h3, if_neg (by omega)]

theorem partG_at (F : Nat → Nat × Nat) (n k : Nat) (h : k < n) : (partG F n k)[k]? = some (.complex .f32 0 0) := by
  simp [partG, List.getElem?_map, List.getElem?_range h]

theorem partG_end (F : Nat → Nat × Nat) (n : Nat) : partG F n n = cvals .f32 (listF F n) := by
  unfold partG cvals listF
  rw [List.map_map]
  apply List.map_congr_left
  intro i hi
  rw [if_pos (List.mem_range.1 hi)]
  rfl


/-- what holds at the head of Added's loop -/
structure AddInv (F : Nat → Nat × Nat) (L S n : Nat) (iad jad : Option Addr) (icap jcap G g : Nat) (w : World) (k : Nat) (wr : World) : Prop where
  h0 : wr.heap[w.heap.size]? = some (.cells #[.int .i64 L, .int .i64 S, .slice iad n icap] 29 (0, 0))
  h1 : wr.heap[w.heap.size + 1]? = some (.cells #[.int .i64 L, .int .i64 S, .slice jad n jcap] 29 (0, 0))
  h2 : wr.heap[w.heap.size + 1 + 1]? = some (.cells #[.int .i64 0, .int .i64 0, .slice none 0 0] 29 (0, 0))
  h3 : wr.heap[G]? = some (.cells #[.int .i64 L, .int .i64 S, .slice (some ⟨g, 0, none⟩) n n] 29 (0, 0))
  hb : Below w.heap.size w wr
  ho : wr.ownsRow w.heap.size 54 1 (.slice (some ⟨g, 0, none⟩) n n) n (partG F n k)

theorem AddInv.ne {F : Nat → Nat × Nat} {L S n : Nat} {iad jad : Option Addr} {icap jcap G g : Nat} {w wr : World} {k : Nat} (h : AddInv F L S n iad jad icap jcap G g w k wr) : G ≠ g := by
  intro e
  have h1 := h.h3
  rcases h.ho.2 with ⟨h2, -⟩ | ⟨g', cap, cur, h2, -, h3, -⟩
  · cases h2
  · cases h2
    rw [e, h3] at h1
    injection h1 with h1
    injection h1 with _ h1 _
    exact absurd h1 (by decide)

theorem AddInv.next {F : Nat → Nat × Nat} {L S n : Nat} {iad jad : Option Addr} {icap jcap G g : Nat} {w wr : World} {k q : Nat} (h : AddInv F L S n iad jad icap jcap G g w k wr) (hG : G ≠ g) (hg : w.heap.size + 1 + 1 < g) (v : Value) (hv : v = .complex .f32 (F k).1 (F k).2) :
    AddInv F L S n iad jad icap jcap G g w (k + 1) ((wr.drewN q).setCell ⟨g, k, none⟩ v) := by
  have old : ∀ i, i ≠ g → ((wr.drewN q).setCell ⟨g, k, none⟩ v).heap[i]? = wr.heap[i]? := fun i hne => Below.heap_setCell _ _ _ _ hne
  refine ⟨(old _ (by omega)).trans h.h0, (old _ (by omega)).trans h.h1, (old _ (by omega)).trans h.h2, (old _ hG).trans h.h3, ?_, ?_⟩
  · exact ((h.hb.trans (below_drewN' _ _ q)).setCell (p := ⟨g, k, none⟩) (by show w.heap.size ≤ g; omega) _)
  · have h2 : (wr.drewN q).ownsRow w.heap.size 54 1 (.slice (some ⟨g, 0, none⟩) n n) n (partG F n k) := h.ho
    have h3 := (h2.stored k v).1
    rw [hv, partG_step] at h3
    rw [hv]
    exact h3

/-- is one of the first k sums too large? -/
def bigTo (zs ys : List (Nat × Nat)) (k : Nat) : Bool := (List.range k).any (bigAt zs ys)
theorem bigTo_step (zs ys : List (Nat × Nat)) (k : Nat) : bigTo zs ys (k + 1) = (bigTo zs ys k || bigAt zs ys k) := by
  unfold bigTo
  rw [List.range_succ, List.any_append]
  simp
theorem bigTo_of {zs ys : List (Nat × Nat)} {k n : Nat} (h : bigAt zs ys k = true) (hk : k < n) : bigTo zs ys n = true := List.any_eq_true.2 ⟨k, List.mem_range.2 hk, h⟩

/-- what Added answers where all is right but, maybe, the size of a sum -/
def AddR (zs ys : List (Nat × Nat)) (L S : Nat) (w : World) : Ending → World → Prop :=
  ImgE (if bigAny zs ys then 0 else L) (if bigAny zs ys then 0 else S) (if bigAny zs ys then [] else addS zs ys) (if bigAny zs ys then 8 else 0) w
theorem AddR.bad {zs ys : List (Nat × Nat)} {L S : Nat} {w w' : World} (h : bigAny zs ys = true) (hb : Below w.heap.size w w') : AddR zs ys L S w (.returned (.tuple #[.agg #[.int .i64 0, .int .i64 0, .slice none 0 0], .int .i64 8])) w' := by
  unfold AddR
  rw [h]
  exact ⟨.slice none 0 0, rfl, hb, smp_nil32 _⟩
theorem AddR.good {zs ys : List (Nat × Nat)} {L S : Nat} {w w' : World} {v : Value} (h : bigAny zs ys = false) (hb : Below w.heap.size w w') (hv : Smp .f32 (addS zs ys) w' v) : AddR zs ys L S w (.returned (.tuple #[.agg #[.int .i64 L, .int .i64 S, v], .int .i64 0])) w' := by
  unfold AddR
  rw [h]
  exact ⟨v, rfl, hb, hv⟩

set_option maxRecDepth 100000 in
set_option maxHeartbeats 4000000 in
theorem Added_ok (L S : Nat) (iv jv : Value) (zs ys : List (Nat × Nat)) (w : World) (hiv : Sl w iv (cvals .f32 zs)) (hjv : Sl w jv (cvals .f32 ys))
    (hL : L ≤ 64) (hS : S ≤ 64) (hlz : zs.length = L * S) (hly : ys.length = L * S) (RZ : Right .f32 2047 zs) (RY : Right .f32 2047 ys)
    (hez : (dataErr .f32 2047 L S zs).2 = 0) (hey : (dataErr .f32 2047 L S ys).2 = 0) :
    Calls Try.prog 16 #[.agg #[.int .i64 L, .int .i64 S, iv], .agg #[.int .i64 L, .int .i64 S, jv]] w (AddR zs ys L S w) := by
  have C1 := Lib.hid (fun w' (hb : Below w.heap.size w w') => CheckImage_any L S iv zs w' ⟨by omega, by omega⟩ ⟨by omega, by omega⟩ (hiv.below hb (Nat.le_refl _)))
  have C2 := Lib.hid (fun w' (hb : Below w.heap.size w w') => CheckImage_any L S jv ys w' ⟨by omega, by omega⟩ ⟨by omega, by omega⟩ (hjv.below hb (Nat.le_refl _)))
  rw [hez] at C1
  rw [hey] at C2
  generalize (dataErr .f32 2047 (L : Int) S zs).1 = D1 at *
  generalize (dataErr .f32 2047 (L : Int) S ys).1 = D2 at *
  have HIV := Lib.hid hiv
  have HJV := Lib.hid hjv
  obtain ⟨iad, icap, rfl, hil, -⟩ := hiv
  obtain ⟨jad, jcap, rfl, hjl, -⟩ := hjv
  obtain ⟨n, hn⟩ : ∃ n, n = L * S := ⟨_, rfl⟩
  have e1 : (cvals .f32 zs).length = n := by simp [cvals, hlz, hn]
  have e2 : (cvals .f32 ys).length = n := by simp [cvals, hly, hn]
  rw [e1] at C1 hil HIV ⊢
  rw [e2] at C2 hjl HJV ⊢
  have hn4 : n ≤ 4096 := by rw [hn]; exact Nat.le_trans (Nat.mul_le_mul hL hS) (by decide)
  have HN : Hid (zs.length = n ∧ ys.length = n) := ⟨by rw [hlz, hn], by rw [hly, hn]⟩
  have CN := Lib.hid (fun W => newImage_any L S hL hS W)
  rw [← hn] at CN
  have HBA : Hid (bigAny zs ys = bigTo zs ys n) := by unfold Hid bigAny bigTo; rw [HN.out.1]
  have HAS : Hid (addS zs ys = listF (addAt zs ys) n) := by unfold Hid addS listF; rw [HN.out.1]
  have HR := Lib.hid (And.intro RZ RY)
  clear hn hlz hly e1 e2 RZ RY hez hey
  obtain ⟨W0, hW0⟩ : ∃ W0, W0 = ((w.alloc (.cells #[.int .i64 L, .int .i64 S, .slice iad n icap] 29)).alloc (.cells #[.int .i64 L, .int .i64 S, .slice jad n jcap] 29)).alloc (.cells #[.int .i64 0, .int .i64 0, .slice none 0 0] 29) := ⟨_, rfl⟩
  have hB0 : Below w.heap.size w W0 := by rw [hW0]; exact (((Below.refl _ _).alloc (Nat.le_refl _) _).alloc (by simp) _).alloc (by simp; omega) _
  obtain ⟨a0, a1, a2⟩ := alloc3_blocks w (.cells #[.int .i64 L, .int .i64 S, .slice iad n icap] 29) (.cells #[.int .i64 L, .int .i64 S, .slice jad n jcap] 29) (.cells #[.int .i64 0, .int .i64 0, .slice none 0 0] 29)
  rw [← hW0] at a0 a1 a2
  have HB0 := Lib.hid (And.intro hB0 (And.intro a0 (And.intro a1 a2)))
  have HW0 := Lib.hid hW0
  clear hB0 a0 a1 a2 hW0
  go_enter Try.func16, Try.ntmps16
  go_wp2_with fail
  rw [← HW0.out]
  refine (C1.out _ HB0.out.1).mono ?_
  rintro e w1 ⟨rfl, hb⟩
  have HB1 := Lib.hid (HB0.out.1.trans (hb.mono HB0.out.1.size))
  have HN1 : Hid (w1.heap[w.heap.size]? = some (.cells #[.int .i64 L, .int .i64 S, .slice iad n icap] 29 (0, 0)) ∧ w1.heap[w.heap.size + 1]? = some (.cells #[.int .i64 L, .int .i64 S, .slice jad n jcap] 29 (0, 0)) ∧ w1.heap[w.heap.size + 1 + 1]? = some (.cells #[.int .i64 0, .int .i64 0, .slice none 0 0] 29 (0, 0))) :=
    ⟨(hb.block _ (lt_of_block HB0.out.2.1)).trans HB0.out.2.1, (hb.block _ (lt_of_block HB0.out.2.2.1)).trans HB0.out.2.2.1, (hb.block _ (lt_of_block HB0.out.2.2.2)).trans HB0.out.2.2.2⟩
  clear hb HB0 HW0
  obtain ⟨k0, k1, k2, -, -, -, l1⟩ := three_cells HN1.out.2.1
  go_wp2_with fail
  refine (C2.out _ HB1.out).mono ?_
  rintro e w2 ⟨rfl, hb⟩
  have HB2 := Lib.hid (HB1.out.trans (hb.mono HB1.out.size))
  have HN2 : Hid (w2.heap[w.heap.size]? = some (.cells #[.int .i64 L, .int .i64 S, .slice iad n icap] 29 (0, 0)) ∧ w2.heap[w.heap.size + 1]? = some (.cells #[.int .i64 L, .int .i64 S, .slice jad n jcap] 29 (0, 0)) ∧ w2.heap[w.heap.size + 1 + 1]? = some (.cells #[.int .i64 0, .int .i64 0, .slice none 0 0] 29 (0, 0))) :=
    ⟨(hb.block _ (lt_of_block HN1.out.1)).trans HN1.out.1, (hb.block _ (lt_of_block HN1.out.2.1)).trans HN1.out.2.1, (hb.block _ (lt_of_block HN1.out.2.2)).trans HN1.out.2.2⟩
  clear hb HB1 HN1 k0 k1 k2 l1 C1 C2
  obtain ⟨c0, c1, c2, -, -, -, l0⟩ := three_cells HN2.out.1
  obtain ⟨k0, k1, k2, -, -, -, l1⟩ := three_cells HN2.out.2.1
  go_wp2_with fail
  refine (CN.out _).mono ?_
  rintro e w3 ⟨g, rfl, hg, hb3, hown⟩
  have hsz : w.heap.size + 1 + 1 < w2.heap.size := lt_of_block HN2.out.2.2
  have I0 : Hid (AddInv (addAt zs ys) L S n iad jad icap jcap w3.heap.size g w 0 (w3.alloc (.cells #[.int .i64 L, .int .i64 S, .slice (some ⟨g, 0, none⟩) n n] 29))) := by
    have hs3 := hb3.size
    have old : ∀ i, i ≤ w.heap.size + 1 + 1 → (w3.alloc (.cells #[.int .i64 L, .int .i64 S, .slice (some ⟨g, 0, none⟩) n n] 29)).heap[i]? = w2.heap[i]? := fun i hi =>
      (Below.heap_alloc _ _ _ (by omega)).trans (hb3.block i (by omega))
    refine ⟨(old _ (by omega)).trans HN2.out.1, (old _ (by omega)).trans HN2.out.2.1, (old _ (by omega)).trans HN2.out.2.2, heap_alloc_new _ _, ?_, ?_⟩
    · exact (HB2.out.trans (hb3.mono (by omega))).alloc (by omega) _
    · rw [partG_zero]
      obtain ⟨p1, p2⟩ := hown.alloc (.cells #[.int .i64 L, .int .i64 S, .slice (some ⟨g, 0, none⟩) n n] 29)
      refine ⟨p1, ?_⟩
      rcases p2 with p2 | ⟨g', cap, cur, p3, p4, p5⟩
      · exact .inl p2
      · exact .inr ⟨g', cap, cur, p3, by omega, p5⟩
  have HGN : Hid (w.heap.size + 1 + 1 < g) := Nat.lt_of_lt_of_le hsz hg
  clear hb3 hown hg hsz HN2 HB2 c0 c1 c2 l0 k0 k1 k2 l1 CN
  go_wp2_with fail
  go_loopw [51] (fun i wr => ∃ k : Nat, k ≤ n ∧ i = .int .i64 k ∧ Hid (bigTo zs ys k = false) ∧ Hid (AddInv (addAt zs ys) L S n iad jad icap jcap w3.heap.size g w k wr)) (fun i _ => n - (intOf i).toNat)
  case atStart => exact ⟨0, Nat.zero_le _, rfl, rfl, I0⟩
  case round =>
    obtain ⟨k, hk, rfl, HBd, IK⟩ := hrel
    clear I0
    obtain ⟨wz, rfl⟩ : ∃ wz : World, wz = wr := ⟨_, rfl⟩
    obtain ⟨c0, c1, c2, -, -, -, l0⟩ := three_cells IK.out.h0
    obtain ⟨k0, k1, k2, -, -, -, l1⟩ := three_cells IK.out.h1
    obtain ⟨g0, g1, g2, -, -, -, l3⟩ := three_cells IK.out.h3
    by_cases hlt : k < n
    · have hkz : k < zs.length := by have := HN.out.1; omega
      have hky : k < ys.length := by have := HN.out.2; omega
      obtain ⟨-, b1, o1, rfl, q1, h1⟩ := HIV.out.at (by omega)
      obtain ⟨-, b2, o2, rfl, q2, h2⟩ := HJV.out.at (by omega)
      have d1 : wz.cell? ⟨b1, o1 + k, none⟩ = some (.complex .f32 (zs.getD k (0, 0)).1 (zs.getD k (0, 0)).2) := (IK.out.hb.cell (p := ⟨b1, o1 + k, none⟩) q1).trans (h1 _ _ (cvals_get hkz))
      have d2 : wz.cell? ⟨b2, o2 + k, none⟩ = some (.complex .f32 (ys.getD k (0, 0)).1 (ys.getD k (0, 0)).2) := (IK.out.hb.cell (p := ⟨b2, o2 + k, none⟩) q2).trans (h2 _ _ (cvals_get hky))
      obtain ⟨ra1, ra2, ra3, ra4⟩ := HR.out.1 k hkz
      obtain ⟨rb1, rb2, rb3, rb4⟩ := HR.out.2 k hky
      obtain ⟨p, q, hadd, rp, rq⟩ := run_add32 (P := Try.prog) 54 ra1 ra2 rb1 rb2 ra3 ra4 rb3 rb4
      have s1 : (re .f32 zs k + re .f32 ys k).natAbs ≤ 4094 := by omega
      have s2 : (im .f32 zs k + im .f32 ys k).natAbs ≤ 4094 := by omega
      have CPl := Lib.hid (fun w => plain_any p q _ _ rp rq (Nat.le_trans s1 (by decide)) (Nat.le_trans s2 (by decide)) w)
      obtain ⟨x, y, hconv, rx, ry⟩ := run_conv_whole (P := Try.prog) 54 43 Try.und109 Try.und88 (.enc Ieee.single (re .f32 zs k + re .f32 ys k)) (.enc Ieee.single (im .f32 zs k + im .f32 ys k)) (Nat.le_trans s1 (by decide)) (Nat.le_trans s2 (by decide))
      have CLg := Lib.hid (fun W => isLarge_any x y 4656717616654581760 (re .f32 zs k + re .f32 ys k) (im .f32 zs k + im .f32 ys k) 2047 (rep_lt rx) (rep_lt ry) (rep_wv good_double rx (Nat.le_trans s1 (by decide))) (rep_wv good_double ry (Nat.le_trans s2 (by decide))) sample_rep (by decide) (by decide) W)
      have hBig : Hid (bigAt zs ys k = decide ((2047 : Int) < (re .f32 zs k + re .f32 ys k).natAbs ∨ (2047 : Int) < (im .f32 zs k + im .f32 ys k).natAbs)) := by
        unfold Hid bigAt
        rw [Bool.eq_iff_iff]
        simp
        omega
      rw [← hBig.out] at CLg
      have hAt : Hid (addAt zs ys k = (enc Ieee.single (re .f32 zs k + re .f32 ys k), enc Ieee.single (im .f32 zs k + im .f32 ys k))) := rfl
      generalize enc Ieee.single (re .f32 zs k + re .f32 ys k) = X at *
      generalize enc Ieee.single (im .f32 zs k + im .f32 ys k) = Y at *
      generalize (zs.getD k (0, 0)).1 = z1 at *
      generalize (zs.getD k (0, 0)).2 = z2 at *
      generalize (ys.getD k (0, 0)).1 = z3 at *
      generalize (ys.getD k (0, 0)).2 = z4 at *
      clear ra1 ra2 ra3 ra4 rb1 rb2 rb3 rb4 rp rq rx ry s1 s2 h1 h2 hkz hky hBig
      have l4 := (IK.out.ho.lt g rfl).2
      have c4 : wz.cell? ⟨g, k, none⟩ = some (.complex .f32 0 0) := (IK.out.ho.cellAt k (by omega)).trans (partG_at _ n k hlt)
      have c5 : wz.frozen? ⟨g, k, none⟩ = false := IK.out.ho.frozenAt k
      have hGg := IK.out.ne
      have hGg' : g ≠ w3.heap.size := fun h => hGg h.symm
      have hgn := HGN.out
      have HIN : Hid (AddInv (addAt zs ys) L S n (some ⟨b1, o1, none⟩) (some ⟨b2, o2, none⟩) icap jcap w3.heap.size g w (k + 1) (wz.drew.setCell ⟨g, k, none⟩ (.complex .f32 X Y))) := IK.out.next (q := 1) hGg hgn (.complex .f32 X Y) (by rw [hAt.out])
      have r1 : (wz.drew.setCell ⟨g, k, none⟩ (.complex .f32 X Y)).cell? ⟨w3.heap.size, 2, none⟩ = some (.slice (some ⟨g, 0, none⟩) n n) := (three_cells HIN.out.h3).2.2.1
      have r3 : (wz.drew.setCell ⟨g, k, none⟩ (.complex .f32 X Y)).cell? ⟨g, k, none⟩ = some (.complex .f32 X Y) := (HIN.out.ho.cellAt k (by omega)).trans (by simp [partG, List.getElem?_range hlt, hAt.out])
      have hst : (store ⟨g, k, none⟩ (.complex .f32 X Y)).run Try.prog wz.drew = .ok () (wz.drew.setCell ⟨g, k, none⟩ (.complex .f32 X Y)) := run_store_ok (u := .complex .f32 0 0) _ _ rfl c4 c5
      have c6 : wz.drew.cell? ⟨g, k, none⟩ = some (.complex .f32 0 0) := c4
      have c7 : wz.drew.frozen? ⟨g, k, none⟩ = false := c5
      have hn1 : g ≠ w.heap.size := by omega
      have hn2 : g ≠ w.heap.size + 1 := by omega
      have hn3 : g ≠ b1 := by omega
      have hn4' : g ≠ b2 := by omega
      clear hgn q1 q2
      cases hB : bigAt zs ys k
      · rw [hB] at CLg
        have HB2 : Hid (bigTo zs ys (k + 1) = false) := by unfold Hid; rw [bigTo_step, HBd.out, hB]; rfl
        clear hB
        go_wp2_with fail
        go_region_held3 (fun W => W.cell? ⟨w3.heap.size, 2, none⟩ = some (.slice (some ⟨g, 0, none⟩) n n) ∧ W.cell? ⟨w.heap.size, 2, none⟩ = some (.slice (some ⟨b1, o1, none⟩) n icap) ∧ W.cell? ⟨w.heap.size + 1, 2, none⟩ = some (.slice (some ⟨b2, o2, none⟩) n jcap) ∧ W.cell? ⟨b1, o1 + k, none⟩ = some (.complex .f32 z1 z2) ∧ W.cell? ⟨b2, o2 + k, none⟩ = some (.complex .f32 z3 z4)) (go_keep) (first | (go_at_call 31; refine (CPl.out _).mono ?_; rintro e w' ⟨rfl, rfl⟩))
        go_wp2_with fail
        refine (CLg.out _).mono ?_
        rintro e w' ⟨rfl, rfl⟩
        go_wp2_with fail
        go_roundw
        case rel => exact ⟨k + 1, by omega, by go_num, HB2, HIN.out⟩
        case measure => simp [intOf]; omega
      · rw [hB] at CLg
        have HB2 : Hid (bigAny zs ys = true) := HBA.out.trans (bigTo_of hB hlt)
        clear hB
        have z0 : (wz.setCell ⟨g, k, none⟩ (.complex .f32 X Y)).heap[w.heap.size + 1 + 1]? = some (.cells #[.int .i64 0, .int .i64 0, .slice none 0 0] 29 (0, 0)) := HIN.out.h2
        have y0 := (three_cells z0).1
        have y1 := (three_cells z0).2.1
        have y2 := (three_cells z0).2.2.1
        have y3 := (three_cells z0).2.2.2.1
        have y4 := (three_cells z0).2.2.2.2.1
        have y5 := (three_cells z0).2.2.2.2.2.1
        clear z0
        go_wp2_with fail
        go_region_held3 (fun W => W.cell? ⟨w3.heap.size, 2, none⟩ = some (.slice (some ⟨g, 0, none⟩) n n) ∧ W.cell? ⟨w.heap.size, 2, none⟩ = some (.slice (some ⟨b1, o1, none⟩) n icap) ∧ W.cell? ⟨w.heap.size + 1, 2, none⟩ = some (.slice (some ⟨b2, o2, none⟩) n jcap) ∧ W.cell? ⟨b1, o1 + k, none⟩ = some (.complex .f32 z1 z2) ∧ W.cell? ⟨b2, o2 + k, none⟩ = some (.complex .f32 z3 z4)) (go_keep) (first | (go_at_call 31; refine (CPl.out _).mono ?_; rintro e w' ⟨rfl, rfl⟩))
        go_wp2_with fail
        refine (CLg.out _).mono ?_
        rintro e w' ⟨rfl, rfl⟩
        go_wp2_with fail
        refine bodyPost_ret (v := .tuple #[.agg #[.int .i64 0, .int .i64 0, .slice none 0 0], .int .i64 8]) (by simp [results, Try.results16, go_sem, y0, y1, y2]) rfl (AddR.bad HB2.out ?_)
        exact ((((IK.out.hb.setCell (p := ⟨g, k, none⟩) (by have := HGN.out; show w.heap.size ≤ g; omega) _).setCell (p := ⟨w.heap.size + 1 + 1, 0, none⟩) (by show w.heap.size ≤ w.heap.size + 1 + 1; omega) _).setCell (p := ⟨w.heap.size + 1 + 1, 1, none⟩) (by show w.heap.size ≤ w.heap.size + 1 + 1; omega) _).setCell (p := ⟨w.heap.size + 1 + 1, 2, none⟩) (by show w.heap.size ≤ w.heap.size + 1 + 1; omega) _).drew
    · obtain rfl : k = n := by omega
      obtain ⟨z0, z1, z2, y0, y1, y2, l2⟩ := three_cells IK.out.h2
      have ho := IK.out.ho
      rw [partG_end] at ho
      have HO := Lib.hid ho
      have HB := Lib.hid IK.out.hb
      have hgn := HGN.out
      clear ho IK
      go_wp2_with fail
      refine bodyPost_ret (v := .tuple #[.agg #[.int .i64 L, .int .i64 S, .slice (some ⟨g, 0, none⟩) k k], .int .i64 0]) (by simp [results, Try.results16, go_sem, z0, z1, z2]) rfl (AddR.good (HBA.out.trans HBd.out) ?_ ⟨?_⟩)
      · exact (((HB.out.setCell (p := ⟨w.heap.size + 1 + 1, 0, none⟩) (by show w.heap.size ≤ w.heap.size + 1 + 1; omega) _).setCell (p := ⟨w.heap.size + 1 + 1, 1, none⟩) (by show w.heap.size ≤ w.heap.size + 1 + 1; omega) _).setCell (p := ⟨w.heap.size + 1 + 1, 2, none⟩) (by show w.heap.size ≤ w.heap.size + 1 + 1; omega) _)
      · have hne : (Value.slice (some ⟨g, 0, none⟩) k k).ownBlock ≠ some (w.heap.size + 1 + 1) := by
          intro h
          simp only [Value.ownBlock, Option.some.injEq] at h
          omega
        rw [HAS.out]
        exact Sl.of_owns (ownsRow_setCell_other (ownsRow_setCell_other (ownsRow_setCell_other HO.out hne _) hne _) hne _) (by omega)
end Go.Proofs.Ytadajelonekpmaa
