import Derived.Test.YtadajelonekpmaaJa
namespace Go.Proofs.Ytadajelonekpmaa
open Go.RowKit Go.Proofs.Ytadajelonekpmaa.Flt

def listF (F : Nat → Nat × Nat) (n : Nat) : List (Nat × Nat) := (List.range n).map F
/-- the values of F written so far, and zeros -/
def partF (F : Nat → Nat × Nat) (n k : Nat) : List Value :=
  (List.range n).map fun i => if i < k then .complex .f64 (F i).1 (F i).2 else .complex .f64 0 0

theorem partF_zero (F : Nat → Nat × Nat) (n : Nat) : partF F n 0 = List.replicate n (.complex .f64 0 0) := by
  unfold partF
  simp
  exact (List.eq_replicate_iff.2 ⟨by simp, by simp⟩)

theorem partF_length (F : Nat → Nat × Nat) (n k : Nat) : (partF F n k).length = n := by simp [partF]

theorem partF_step (F : Nat → Nat × Nat) (n k : Nat) : (partF F n k).set k (.complex .f64 (F k).1 (F k).2) = partF F n (k + 1) := by
  apply List.ext_getElem
  · simp [partF]
  · intro i h1 h2
    rw [List.getElem_set]
    simp only [partF, List.getElem_map, List.getElem_range]
    by_cases h : k = i
    · subst h; simp
    · rw [if_neg h]
      by_cases h3 : i < k
      · rw [if_pos h3, if_pos (by omega)]
      · rw [if_neg h3, if_neg (by omega)]

theorem partF_at (F : Nat → Nat × Nat) (n k : Nat) (h : k < n) : (partF F n k)[k]? = some (.complex .f64 0 0) := by
  simp [partF, List.getElem?_map, List.getElem?_range h]

theorem partF_end (F : Nat → Nat × Nat) (n : Nat) : partF F n n = cvals .f64 (listF F n) := by
  unfold partF cvals listF
  rw [List.map_map]
  apply List.map_congr_left
  intro i hi
  rw [if_pos (List.mem_range.1 hi)]
  rfl

/-- what holds at the head of Focus's loop -/
structure FocInv (F : Nat → Nat × Nat) (L S L' n n' m : Nat) (iad cad : Option Addr) (icap ccap G g : Nat) (w : World) (k : Nat) (wr : World) : Prop where
  h0 : wr.heap[w.heap.size]? = some (.cells #[.int .i64 L, .int .i64 S, .slice iad n icap] 34 (0, 0))
  h1 : wr.heap[w.heap.size + 1]? = some (.cells #[.slice cad m ccap] 27 (0, 0))
  h2 : wr.heap[w.heap.size + 1 + 1]? = some (.cells #[.int .i64 0, .int .i64 0, .slice none 0 0] 34 (0, 0))
  h3 : wr.heap[G]? = some (.cells #[.int .i64 L', .int .i64 S, .slice (some ⟨g, 0, none⟩) n' n'] 34 (0, 0))
  hb : Below w.heap.size w wr
  ho : wr.ownsRow w.heap.size 43 1 (.slice (some ⟨g, 0, none⟩) n' n') n' (partF F n' k)

theorem FocInv.ne {F : Nat → Nat × Nat} {L S L' n n' m : Nat} {iad cad : Option Addr} {icap ccap G g : Nat} {w wr : World} {k : Nat} (h : FocInv F L S L' n n' m iad cad icap ccap G g w k wr) : G ≠ g := by
  intro e
  have h1 := h.h3
  rcases h.ho.2 with ⟨h2, -⟩ | ⟨g', cap, cur, h2, -, h3, -⟩
  · cases h2
  · cases h2
    rw [e, h3] at h1
    injection h1 with h1
    injection h1 with _ h1 _
    exact absurd h1 (by decide)

/-- the loop's invariant a round later -/
theorem FocInv.next {F : Nat → Nat × Nat} {L S L' n n' m : Nat} {iad cad : Option Addr} {icap ccap G g : Nat} {w wr : World} {k q : Nat} (h : FocInv F L S L' n n' m iad cad icap ccap G g w k wr) (hG : G ≠ g) (hg : w.heap.size + 1 + 1 < g) (f : Nat) (v : Value) (hv : v = .complex .f64 (F k).1 (F k).2) :
    FocInv F L S L' n n' m iad cad icap ccap G g w (k + 1) (((wr.alloc (.cells #[.int .i64 f] 3)).drewN q).setCell ⟨g, k, none⟩ v) := by
  have hgl := (h.ho.lt g rfl).2
  have old : ∀ i, i < wr.heap.size → i ≠ g → (((wr.alloc (.cells #[.int .i64 f] 3)).drewN q).setCell ⟨g, k, none⟩ v).heap[i]? = wr.heap[i]? := fun i hi hne =>
    (Below.heap_setCell _ _ _ _ hne).trans (Below.heap_alloc _ _ _ hi)
  refine ⟨(old _ (lt_of_block h.h0) (by omega)).trans h.h0, (old _ (lt_of_block h.h1) (by omega)).trans h.h1, (old _ (lt_of_block h.h2) (by omega)).trans h.h2, (old _ (lt_of_block h.h3) hG).trans h.h3, ?_, ?_⟩
  · exact (((h.hb.alloc h.hb.size _).trans (below_drewN' _ _ q)).setCell (p := ⟨g, k, none⟩) (by show w.heap.size ≤ g; omega) _)
  · have h1 := (h.ho.alloc (.cells #[.int .i64 f] 3))
    have h2 : ((wr.alloc (.cells #[.int .i64 f] 3)).drewN q).ownsRow w.heap.size 43 1 (.slice (some ⟨g, 0, none⟩) n' n') n' (partF F n' k) := h1
    have h3 := (h2.stored k v).1
    rw [hv, partF_step] at h3
    rw [hv]
    exact h3


/-- a field that a call hands back, in memory of its own -/
def FieldF (l s : Int) (C : List (Nat × Nat)) (E : Int) (w : World) (e : Ending) (w' : World) : Prop :=
  ∃ v, e = .returned (.tuple #[.agg #[.int .i64 l, .int .i64 s, v], .int .i64 E]) ∧ Below w.heap.size w w' ∧ Smp .f64 C w' v ∧ ∀ b, v.ownBlock = some b → w.heap.size ≤ b
theorem FieldF.e {l s : Int} {C : List (Nat × Nat)} {E : Int} {w : World} {e : Ending} {w' : World} (h : FieldF l s C E w e w') : FieldE l s C E w e w' :=
  let ⟨v, h1, h2, h3, _⟩ := h; ⟨v, h1, h2, h3⟩

/-- what Focus answers where all is right but, maybe, the size of a sum -/
def FocR (zs us : List (Nat × Nat)) (L' S n' : Nat) (w : World) : Ending → World → Prop :=
  FieldE (if focBad zs us S n' then 0 else L') (if focBad zs us S n' then 0 else S) (if focBad zs us S n' then [] else focList zs us S n') (if focBad zs us S n' then 8 else 0) w
def FocF (zs us : List (Nat × Nat)) (L' S n' : Nat) (w : World) : Ending → World → Prop :=
  FieldF (if focBad zs us S n' then 0 else L') (if focBad zs us S n' then 0 else S) (if focBad zs us S n' then [] else focList zs us S n') (if focBad zs us S n' then 8 else 0) w
theorem FocF.bad {zs us : List (Nat × Nat)} {L' S n' : Nat} {w w' : World} (h : focBad zs us S n' = true) (hb : Below w.heap.size w w') : FocF zs us L' S n' w (.returned (.tuple #[.agg #[.int .i64 0, .int .i64 0, .slice none 0 0], .int .i64 8])) w' := by
  unfold FocF
  rw [h]
  exact ⟨.slice none 0 0, rfl, hb, smp_nil _, fun b hb => by cases hb⟩
theorem FocF.good {zs us : List (Nat × Nat)} {L' S n' g : Nat} {w w' : World} {n c : Nat} (h : focBad zs us S n' = false) (hb : Below w.heap.size w w') (hg : w.heap.size ≤ g) (hv : Smp .f64 (focList zs us S n') w' (.slice (some ⟨g, 0, none⟩) n c)) : FocF zs us L' S n' w (.returned (.tuple #[.agg #[.int .i64 L', .int .i64 S, .slice (some ⟨g, 0, none⟩) n c], .int .i64 0])) w' := by
  unfold FocF
  rw [h]
  refine ⟨_, rfl, hb, hv, fun b hb => ?_⟩
  have : g = b := by simpa [Value.ownBlock] using hb
  omega

set_option maxRecDepth 100000 in
set_option maxHeartbeats 4000000 in
theorem Focus_okF (L S m : Nat) (iv cv : Value) (zs us : List (Nat × Nat)) (w : World) (hiv : Sl w iv (cvals .f64 zs)) (hcv : Sl w cv (cvals .f32 us))
    (hz : ∀ z ∈ zs, z.1 < 2 ^ 64 ∧ z.2 < 2 ^ 64) (hu : ∀ z ∈ us, z.1 < 2 ^ 32 ∧ z.2 < 2 ^ 32) (hL1 : 1 ≤ L) (hL : L ≤ 64) (hS1 : 1 ≤ S) (hS : S ≤ 64) (hm : us.length = m)
    (hei : (dataErr .f64 1000000000 L S zs).2 = 0) (hec : (codeErr us).2 = 0) (hmL : m ≤ L) :
    Calls Try.prog 17 #[.agg #[.int .i64 L, .int .i64 S, iv], cv] w (FocF zs us (L - m + 1) S ((L - m + 1) * S) w) := by
  have C1 := Lib.hid (fun w' (hb : Below w.heap.size w w') => CheckField_any L S iv zs w' ⟨by omega, by omega⟩ ⟨by omega, by omega⟩ (hiv.below hb (Nat.le_refl _)) hz)
  have C2 := Lib.hid (fun w' (hb : Below w.heap.size w w') => CheckCode_any cv us w' (hcv.below hb (Nat.le_refl _)))
  obtain ⟨-, -, -, -, hlen', hr1⟩ := dataErr_ok hei
  have hlen : zs.length = L * S := by exact_mod_cast hlen'
  obtain ⟨hm1, hm2, hr2⟩ := codeErr_ok hec
  have RI : Right .f64 1000000000 zs := right_of_ok (by decide) hz hr1
  have RC : Right .f32 3 us := right_of_ok (by decide) hu hr2
  rw [hm] at hm1 hm2
  have HRI := Lib.hid RI
  have HRC := Lib.hid RC
  clear hlen' hr1 hr2 RI RC
  obtain ⟨R1, hR1⟩ : ∃ R, R = dataErr .f64 1000000000 L S zs := ⟨_, rfl⟩
  obtain ⟨R2, hR2⟩ : ∃ R, R = codeErr us := ⟨_, rfl⟩
  rw [← hR1] at C1 hei
  rw [← hR2] at C2 hec
  obtain ⟨R11, R12⟩ := R1
  obtain ⟨R21, R22⟩ := R2
  dsimp only at C1 C2 hei hec
  subst hei hec
  obtain ⟨iad, icap, rfl, hil, hic⟩ := hiv
  obtain ⟨cad, ccap, rfl, hcl, hcc⟩ := hcv
  have e1 : (cvals .f64 zs).length = L * S := by simp [cvals, hlen]
  have e2 : (cvals .f32 us).length = m := by simp [cvals, hm]
  rw [e1] at C1 hil ⊢
  rw [e2] at C2 hcl ⊢
  have hLS : L * S ≤ 4096 := Nat.le_trans (Nat.mul_le_mul hL hS) (by decide)
  generalize hn : L * S = n at *
  have HIC := Lib.hid hic
  have HCC := Lib.hid hcc
  have HN := Lib.hid hn
  have HL := Lib.hid hlen
  have HM := Lib.hid hm
  clear hic hcc hz hu hn hlen hm e1 e2 hR1 hR2
  go_enter Try.func17, Try.ntmps17
  go_wp2_with fail
  obtain ⟨a0, a1, a2⟩ := alloc3_blocks w (.cells #[.int .i64 L, .int .i64 S, .slice iad n icap] 34) (.cells #[.slice cad m ccap] 27) (.cells #[.int .i64 0, .int .i64 0, .slice none 0 0] 34)
  have hW := ((((Below.refl w.heap.size w).alloc (Nat.le_refl _) (.cells #[.int .i64 L, .int .i64 S, .slice iad n icap] 34)).alloc (by simp) (.cells #[.slice cad m ccap] 27)).alloc (by simp; omega) (.cells #[.int .i64 0, .int .i64 0, .slice none 0 0] 34))
  refine (C1.out _ hW).mono ?_
  rintro e w1 ⟨rfl, hb1⟩
  have HA : Hid (w1.heap[w.heap.size]? = some (.cells #[.int .i64 L, .int .i64 S, .slice iad n icap] 34 (0, 0)) ∧ w1.heap[w.heap.size + 1]? = some (.cells #[.slice cad m ccap] 27 (0, 0)) ∧
      w1.heap[w.heap.size + 1 + 1]? = some (.cells #[.int .i64 0, .int .i64 0, .slice none 0 0] 34 (0, 0))) :=
    ⟨(hb1.block _ (by simp; omega)).trans a0, (hb1.block _ (by simp)).trans a1, (hb1.block _ (by simp)).trans a2⟩
  have HB1 := Lib.hid (hW.trans (hb1.mono (by simp; omega)))
  clear a0 a1 a2 hb1 hW C1
  obtain ⟨b0, b1, b2, -, -, -, -⟩ := three_cells HA.out.1
  have b3 := cell_of_one HA.out.2.1
  go_wp2_with fail
  refine (C2.out _ HB1.out).mono ?_
  rintro e w2 ⟨rfl, q, rfl⟩
  go_wp2_with fail
  have e5 : (L : Int) - m + 1 = ((L - m + 1 : Nat) : Int) := by omega
  rw [e5]
  clear e5
  generalize hS' : L - m + 1 = L' at *
  refine (newField_any L' S (by omega) hS _).mono ?_
  rintro e w3 ⟨g, rfl, hg, hb3, hown⟩
  generalize hn' : L' * S = n' at *
  have hn'2 : n' ≤ 4096 := by rw [← hn']; exact Nat.le_trans (Nat.mul_le_mul (show L' ≤ 64 by omega) hS) (by decide)
  have HN' := Lib.hid hn'
  have HS' := Lib.hid hS'
  clear hn' hS'
  have hsz : w.heap.size + 1 + 1 < w1.heap.size := lt_of_block HA.out.2.2
  have I0 : Hid (FocInv (focAt zs us S) L S L' n n' m iad cad icap ccap w3.heap.size g w 0 (w3.alloc (.cells #[.int .i64 L', .int .i64 S, .slice (some ⟨g, 0, none⟩) n' n'] 34))) := by
    have hs3 := hb3.size
    simp at hs3
    have old : ∀ i, i ≤ w.heap.size + 1 + 1 → (w3.alloc (.cells #[.int .i64 L', .int .i64 S, .slice (some ⟨g, 0, none⟩) n' n'] 34)).heap[i]? = w1.heap[i]? := fun i hi =>
      (Below.heap_alloc _ _ _ (by omega)).trans (hb3.block i (by simp; omega))
    refine ⟨(old _ (by omega)).trans HA.out.1, (old _ (by omega)).trans HA.out.2.1, (old _ (by omega)).trans HA.out.2.2, heap_alloc_new _ _, ?_, ?_⟩
    · exact ((HB1.out.trans (below_drewN' _ _ q)).trans (hb3.mono (by simp; omega))).alloc (by omega) _
    · rw [partF_zero]
      have := hown.alloc (.cells #[.int .i64 L', .int .i64 S, .slice (some ⟨g, 0, none⟩) n' n'] 34)
      obtain ⟨p1, p2⟩ := this
      refine ⟨p1, ?_⟩
      rcases p2 with p2 | ⟨g', cap, cur, p3, p4, p5⟩
      · exact .inl p2
      · exact .inr ⟨g', cap, cur, p3, by simp at p4; omega, p5⟩
  have HGN : Hid (w.heap.size + 1 + 1 < g) := Nat.lt_of_lt_of_le hsz hg
  have hd : decide (L < m) = false := by simp; omega
  clear hb3 hown hg hsz HA HB1 b0 b1 b2 b3 C2
  go_wp2_with fail
  go_loopw [48] (fun i wr => ∃ k : Nat, k ≤ n' ∧ i = .int .i64 k ∧ Hid (focBad zs us S k = false) ∧ Hid (FocInv (focAt zs us S) L S L' n n' m iad cad icap ccap w3.heap.size g w k wr)) (fun i _ => n' - (intOf i).toNat)
  case atStart => exact ⟨0, Nat.zero_le _, rfl, rfl, I0⟩
  case round =>
    obtain ⟨k, hk, rfl, HBd, IK⟩ := hrel
    clear I0
    obtain ⟨wz, rfl⟩ : ∃ wz : World, wz = wr := ⟨_, rfl⟩
    obtain ⟨c0, c1, c2, -, -, -, -⟩ := three_cells IK.out.h0
    have c3 := cell_of_one IK.out.h1
    obtain ⟨g0, g1, g2, -, -, -, -⟩ := three_cells IK.out.h3
    have l0 := lt_of_block IK.out.h0
    have l1 := lt_of_block IK.out.h1
    have l3 := lt_of_block IK.out.h3
    by_cases hlt : k < n'
    · have hkS : ∀ j, j < m → k + j * S < n := by
        intro j hj
        have h1 := HN'.out
        have h2 := HN.out
        have h3 := HS'.out
        have h4 : (m - 1) * S + L' * S = L * S := by rw [← Nat.add_mul, show m - 1 + L' = L from by omega]
        have h5 : j * S ≤ (m - 1) * S := Nat.mul_le_mul_right _ (by omega)
        omega
      have CS : ∀ W : World, W.heap = (wz.alloc (.cells #[.int .i64 k] 3)).heap → Calls Try.prog 24 #[.int .i64 m, .func (.func 34) #[] #[.pointer (some ⟨w.heap.size, 0, none⟩), .pointer (some ⟨wz.heap.size, 0, none⟩), .pointer (some ⟨w.heap.size + 1, 0, none⟩)]] W
          fun e w' => e = .returned (.complex .f64 (enc Ieee.double (fRe zs us S k m)) (enc Ieee.double (fIm zs us S k m))) ∧ ∃ q, w' = W.drewN q := by
        intro W hW
        have hblk : ∀ b, b < wz.heap.size → W.heap[b]? = wz.heap[b]? := fun b hb => by rw [hW]; exact Below.heap_alloc _ _ _ hb
        have r0 : W.cell? ⟨w.heap.size, 0 + 1, none⟩ = some (.int .i64 S) := (World.cell?_of_block (w := wz) (a := ⟨w.heap.size, 1, none⟩) (hblk _ l0)).trans c1
        have r1 : W.cell? ⟨w.heap.size, 0 + 2, none⟩ = some (.slice iad zs.length icap) := by rw [HL.out]; exact (World.cell?_of_block (w := wz) (a := ⟨w.heap.size, 2, none⟩) (hblk _ l0)).trans c2
        have r2 : W.cell? ⟨wz.heap.size, 0, none⟩ = some (.int .i64 k) := by
          have : W.heap[wz.heap.size]? = some (.cells #[.int .i64 k] 3 (0, 0)) := by rw [hW]; exact heap_alloc_new _ _
          exact cell_of_one this
        have r3 : W.cell? ⟨w.heap.size + 1, 0, none⟩ = some (.slice cad us.length ccap) := by rw [HM.out]; exact (World.cell?_of_block (w := wz) (a := ⟨w.heap.size + 1, 0, none⟩) (hblk _ l1)).trans c3
        have := sumOver_foc zs us S k iad cad icap ccap w.heap.size wz.heap.size (w.heap.size + 1) w W (fun b hb => (hblk b (Nat.lt_trans hb l0)).trans (IK.out.hb.block b hb)) r0 r1 r2 r3 HIC.out HCC.out HRI.out HRC.out (by rw [HM.out]; omega) (by rw [HM.out]; omega) (by rw [HM.out, HL.out]; exact hkS) (by rw [HL.out]; exact hLS)
        rw [HM.out] at this
        exact this
      have HCS := Lib.hid CS
      have hfb := f_b HRI.out HRC.out S k m (by rw [HM.out, HL.out]; exact hkS) (by rw [HM.out]; omega) (by rw [HM.out]; omega)
      have CLg := Lib.hid (fun W => isLarge_any (enc Ieee.double (fRe zs us S k m)) (enc Ieee.double (fIm zs us S k m)) 4741671816366391296 (fRe zs us S k m) (fIm zs us S k m) 1000000000 (rep_lt (.enc Ieee.double _)) (rep_lt (.enc Ieee.double _)) (rep_wv good_double (.enc Ieee.double _) (Nat.le_trans hfb.1 (by decide))) (rep_wv good_double (.enc Ieee.double _) (Nat.le_trans hfb.2 (by decide))) field_rep (by decide) (by decide) W)
      have hBig : Hid (focBig zs us S k = decide ((1000000000 : Int) < (fRe zs us S k m).natAbs ∨ (1000000000 : Int) < (fIm zs us S k m).natAbs)) := by unfold Hid focBig; rw [HM.out]
      have hAt : Hid (focAt zs us S k = (enc Ieee.double (fRe zs us S k m), enc Ieee.double (fIm zs us S k m))) := by unfold Hid focAt; rw [HM.out]
      rw [← hBig.out] at CLg
      have l4 := (IK.out.ho.lt g rfl).2
      have c4 : wz.cell? ⟨g, k, none⟩ = some (.complex .f64 0 0) := (IK.out.ho.cellAt k (by omega)).trans (partF_at _ n' k hlt)
      have c5 : wz.frozen? ⟨g, k, none⟩ = false := IK.out.ho.frozenAt k
      have hst : ∀ (q X Y : Nat), (store ⟨g, k, none⟩ (.complex .f64 X Y)).run Try.prog ((wz.alloc (.cells #[.int .i64 k] 3)).drewN q) = .ok () (((wz.alloc (.cells #[.int .i64 k] 3)).drewN q).setCell ⟨g, k, none⟩ (.complex .f64 X Y)) := by
        intro q X Y
        refine run_store_ok (u := .complex .f64 0 0) _ _ rfl ?_ ?_
        · exact (World.cell?_of_block (w := wz) (a := ⟨g, k, none⟩) (Below.heap_alloc _ _ _ l4)).trans c4
        · exact (World.frozen?_of_block (w := wz) (a := ⟨g, k, none⟩) (Below.heap_alloc _ _ _ l4)).trans c5
      have hGg := IK.out.ne
      have hGg' : g ≠ w3.heap.size := fun h => hGg h.symm
      have hgn := HGN.out
      have hgn' : g ≠ w.heap.size + 1 := by omega
      have hgk : g ≠ wz.heap.size := by omega
      generalize enc Ieee.double (fRe zs us S k m) = X at *
      generalize enc Ieee.double (fIm zs us S k m) = Y at *
      have HIN : Hid (∀ q, FocInv (focAt zs us S) L S L' n n' m iad cad icap ccap w3.heap.size g w (k + 1) (((wz.alloc (.cells #[.int .i64 k] 3)).drewN q).setCell ⟨g, k, none⟩ (.complex .f64 X Y))) := fun q => IK.out.next hGg hgn k (.complex .f64 X Y) (by rw [hAt.out])
      have r1 : ∀ q, (((wz.alloc (.cells #[.int .i64 k] 3)).drewN q).setCell ⟨g, k, none⟩ (.complex .f64 X Y)).cell? ⟨w3.heap.size, 2, none⟩ = some (.slice (some ⟨g, 0, none⟩) n' n') := fun q => (three_cells (HIN.out q).h3).2.2.1
      have r2 : ∀ q, (((wz.alloc (.cells #[.int .i64 k] 3)).drewN q).setCell ⟨g, k, none⟩ (.complex .f64 X Y)).cell? ⟨wz.heap.size, 0, none⟩ = some (.int .i64 k) := fun q => cell_of_one ((Below.heap_setCell _ _ _ _ (Ne.symm hgk)).trans (heap_alloc_new wz _))
      have r3 : ∀ q, (((wz.alloc (.cells #[.int .i64 k] 3)).drewN q).setCell ⟨g, k, none⟩ (.complex .f64 X Y)).cell? ⟨g, k, none⟩ = some (.complex .f64 X Y) := fun q => ((HIN.out q).ho.cellAt k (by omega)).trans (by simp [partF, List.getElem?_range hlt, hAt.out])
      have hk0 : (wz.alloc (.cells #[.int .i64 k] 3)).cell? ⟨wz.heap.size, 0, none⟩ = some (.int .i64 k) := cell_of_one (heap_alloc_new _ _)
      clear CS hfb hkS hgn
      cases hB : focBig zs us S k
      · rw [hB] at CLg
        have HB2 : Hid (focBad zs us S (k + 1) = false) := by unfold Hid; rw [focBad, HBd.out, hB]; rfl
        clear hB hBig
        go_wp2_with fail
        go_region_held3 (fun W => W.cell? ⟨w3.heap.size, 2, none⟩ = some (.slice (some ⟨g, 0, none⟩) n' n') ∧ W.cell? ⟨w.heap.size + 1, 0, none⟩ = some (.slice cad m ccap) ∧ W.cell? ⟨wz.heap.size, 0, none⟩ = some (.int .i64 k)) (go_keep) (first | (go_at_call 24; refine (HCS.out _ (by exact rfl)).mono ?_; rintro e w' ⟨rfl, q', rfl⟩))
        go_wp2_with fail
        refine (CLg.out _).mono ?_
        rintro e w' ⟨rfl, rfl⟩
        go_wp2_with fail
        go_roundw
        case rel => exact ⟨k + 1, by omega, by go_num, HB2, HIN.out _⟩
        case measure => simp [intOf]; omega
      · rw [hB] at CLg
        have HB2 : Hid (focBad zs us S n' = true) := focBad_of hB n' hlt
        clear hB hBig
        have z0 : ∀ q, (((wz.alloc (.cells #[.int .i64 k] 3)).drewN q).setCell ⟨g, k, none⟩ (.complex .f64 X Y)).heap[w.heap.size + 1 + 1]? = some (.cells #[.int .i64 0, .int .i64 0, .slice none 0 0] 34 (0, 0)) := fun q => (HIN.out q).h2
        have y0 := fun q => (three_cells (z0 q)).1
        have y1 := fun q => (three_cells (z0 q)).2.1
        have y2 := fun q => (three_cells (z0 q)).2.2.1
        have y3 := fun q => (three_cells (z0 q)).2.2.2.1
        have y4 := fun q => (three_cells (z0 q)).2.2.2.2.1
        have y5 := fun q => (three_cells (z0 q)).2.2.2.2.2.1
        clear z0
        go_wp2_with fail
        go_region_held3 (fun W => W.cell? ⟨w3.heap.size, 2, none⟩ = some (.slice (some ⟨g, 0, none⟩) n' n') ∧ W.cell? ⟨w.heap.size + 1, 0, none⟩ = some (.slice cad m ccap) ∧ W.cell? ⟨wz.heap.size, 0, none⟩ = some (.int .i64 k)) (go_keep) (first | (go_at_call 24; refine (HCS.out _ (by exact rfl)).mono ?_; rintro e w' ⟨rfl, q', rfl⟩))
        go_wp2_with fail
        refine (CLg.out _).mono ?_
        rintro e w' ⟨rfl, rfl⟩
        go_wp2_with fail
        exact bodyPost_ret (v := .tuple #[.agg #[.int .i64 0, .int .i64 0, .slice none 0 0], .int .i64 8]) (by simp [results, Try.results17, go_sem, y0, y1, y2]) rfl (FocF.bad HB2.out (((((HIN.out _).hb.setCell (p := ⟨w.heap.size + 1 + 1, 0, none⟩) (by show w.heap.size ≤ w.heap.size + 1 + 1; omega) _).setCell (p := ⟨w.heap.size + 1 + 1, 1, none⟩) (by show w.heap.size ≤ w.heap.size + 1 + 1; omega) _).setCell (p := ⟨w.heap.size + 1 + 1, 2, none⟩) (by show w.heap.size ≤ w.heap.size + 1 + 1; omega) _)))
    · obtain rfl : k = n' := by omega
      obtain ⟨z0, z1, z2, y0, y1, y2, l2⟩ := three_cells IK.out.h2
      have ho := IK.out.ho
      rw [partF_end] at ho
      have HO := Lib.hid ho
      have HB := Lib.hid IK.out.hb
      have hgn := HGN.out
      clear ho IK
      go_wp2_with fail
      refine bodyPost_ret (v := .tuple #[.agg #[.int .i64 L', .int .i64 S, .slice (some ⟨g, 0, none⟩) k k], .int .i64 0]) (by simp [results, Try.results17, go_sem, z0, z1, z2]) rfl (FocF.good HBd.out ?_ (by omega) ⟨?_⟩)
      · exact (((HB.out.setCell (p := ⟨w.heap.size + 1 + 1, 0, none⟩) (by show w.heap.size ≤ w.heap.size + 1 + 1; omega) _).setCell (p := ⟨w.heap.size + 1 + 1, 1, none⟩) (by show w.heap.size ≤ w.heap.size + 1 + 1; omega) _).setCell (p := ⟨w.heap.size + 1 + 1, 2, none⟩) (by show w.heap.size ≤ w.heap.size + 1 + 1; omega) _)
      · have hne : (Value.slice (some ⟨g, 0, none⟩) k k).ownBlock ≠ some (w.heap.size + 1 + 1) := by
          intro h
          simp only [Value.ownBlock, Option.some.injEq] at h
          omega
        exact Sl.of_owns (ownsRow_setCell_other (ownsRow_setCell_other (ownsRow_setCell_other HO.out hne _) hne _) hne _) (by omega)
theorem Focus_ok (L S m : Nat) (iv cv : Value) (zs us : List (Nat × Nat)) (w : World) (hiv : Sl w iv (cvals .f64 zs)) (hcv : Sl w cv (cvals .f32 us))
    (hz : ∀ z ∈ zs, z.1 < 2 ^ 64 ∧ z.2 < 2 ^ 64) (hu : ∀ z ∈ us, z.1 < 2 ^ 32 ∧ z.2 < 2 ^ 32) (hL1 : 1 ≤ L) (hL : L ≤ 64) (hS1 : 1 ≤ S) (hS : S ≤ 64) (hm : us.length = m)
    (hei : (dataErr .f64 1000000000 L S zs).2 = 0) (hec : (codeErr us).2 = 0) (hmL : m ≤ L) :
    Calls Try.prog 17 #[.agg #[.int .i64 L, .int .i64 S, iv], cv] w (FocR zs us (L - m + 1) S ((L - m + 1) * S) w) :=
  (Focus_okF L S m iv cv zs us w hiv hcv hz hu hL1 hL hS1 hS hm hei hec hmL).mono fun _ _ h => h.e
end Go.Proofs.Ytadajelonekpmaa
