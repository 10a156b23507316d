import Derived.Test.YtadajelonekpmaaEc
namespace Go.Proofs.Ytadajelonekpmaa
open Go.RowKit Go.Proofs.Ytadajelonekpmaa.Flt

/-- the whole number that a word stands for (0 where it stands for none) -/
def ival (k : FloatKind) (x : Nat) : Int := (wv k.format x).getD 0

/-- the parts of the sample i of a list, as numbers -/
def re (k : FloatKind) (zs : List (Nat × Nat)) (i : Nat) : Int := ival k (zs.getD i (0, 0)).1
def im (k : FloatKind) (zs : List (Nat × Nat)) (i : Nat) : Int := ival k (zs.getD i (0, 0)).2

/-- what is compressed: the sums over k of z[i + k] times the conjugate of u[k] -/
def compRe (zs us : List (Nat × Nat)) (f : Nat) : Int := sumTo (fun k => re .f32 zs (f + k) * re .f32 us k + im .f32 zs (f + k) * im .f32 us k) us.length
def compIm (zs us : List (Nat × Nat)) (f : Nat) : Int := sumTo (fun k => im .f32 zs (f + k) * re .f32 us k - re .f32 zs (f + k) * im .f32 us k) us.length
def compAt (zs us : List (Nat × Nat)) (S S' : Nat) (i : Nat) : Nat × Nat :=
  (enc Ieee.double (compRe zs us (i / S' * S + i % S')), enc Ieee.double (compIm zs us (i / S' * S + i % S')))
/-- the compressed field's samples -/
def compList (zs us : List (Nat × Nat)) (S S' n : Nat) : List (Nat × Nat) := (List.range n).map (compAt zs us S S')

/-- samples are right: each is of whole parts of at most M in size -/
def Right (k : FloatKind) (M : Nat) (zs : List (Nat × Nat)) : Prop :=
  ∀ i, i < zs.length → Rep k.format (zs.getD i (0, 0)).1 (re k zs i) ∧ Rep k.format (zs.getD i (0, 0)).2 (im k zs i) ∧ (re k zs i).natAbs ≤ M ∧ (im k zs i).natAbs ≤ M

theorem firstErr_ok (es : List Int) {i : Nat} (h : (firstErr i es).2 = 0) : ∀ e ∈ es, e = 0 := by
  induction es generalizing i with
  | nil => intro e he; cases he
  | cons x r ih =>
    unfold firstErr at h
    by_cases hx : x = 0
    · rw [if_pos hx] at h
      intro e he
      cases he with
      | head => exact hx
      | tail _ hm => exact ih h e hm
    · rw [if_neg hx] at h
      exact absurd h hx

theorem right_of_ok {k : FloatKind} {M : Nat} {zs : List (Nat × Nat)} (hM : M ≤ 2 ^ (k.format.fractionBits + 1)) (hw : ∀ z ∈ zs, z.1 < 2 ^ k.format.width ∧ z.2 < 2 ^ k.format.width) (h : (firstErr 0 (smpErrs k M zs)).2 = 0) : Right k M zs := by
  intro i hi
  have hz : zs.getD i (0, 0) ∈ zs := by rw [List.getD_eq_getElem?_getD, List.getElem?_eq_getElem hi]; exact List.getElem_mem hi
  have he := firstErr_ok (smpErrs k M zs) h (smpErr (wv k.format (zs.getD i (0, 0)).1) (wv k.format (zs.getD i (0, 0)).2) M) (List.mem_map.2 ⟨_, hz, rfl⟩)
  obtain ⟨w1, w2⟩ := hw _ hz
  unfold re im ival
  generalize zs.getD i (0, 0) = z at *
  unfold smpErr at he
  cases h1 : wv k.format z.1 with
  | none => rw [h1] at he; simp at he
  | some a =>
    cases h2 : wv k.format z.2 with
    | none => rw [h1, h2] at he; simp at he
    | some b =>
      rw [h1, h2] at he
      dsimp only at he
      have hab : a.natAbs ≤ M ∧ b.natAbs ≤ M := by
        by_cases hc : (M : Int) < a.natAbs ∨ (M : Int) < b.natAbs
        · rw [if_pos hc] at he; cases he
        · omega
      simp only [Option.getD_some]
      exact ⟨wv_rep (good k) w1 h1 (by omega), wv_rep (good k) w2 h2 (by omega), hab.1, hab.2⟩

theorem sizeErr_ok {l s n : Int} (h : sizeErr l s n = 0) : 1 ≤ l ∧ l ≤ 64 ∧ 1 ≤ s ∧ s ≤ 64 ∧ n = l * s := by
  unfold sizeErr at h
  by_cases h1 : l < 1 ∨ 64 < l ∨ s < 1 ∨ 64 < s
  · rw [if_pos h1] at h; cases h
  · rw [if_neg h1] at h
    by_cases h2 : n = l * s
    · exact ⟨by omega, by omega, by omega, by omega, h2⟩
    · rw [if_neg h2] at h; cases h

theorem dataErr_ok {k : FloatKind} {M l s : Int} {zs : List (Nat × Nat)} (h : (dataErr k M l s zs).2 = 0) :
    1 ≤ l ∧ l ≤ 64 ∧ 1 ≤ s ∧ s ≤ 64 ∧ (zs.length : Int) = l * s ∧ (firstErr 0 (smpErrs k M zs)).2 = 0 := by
  unfold dataErr at h
  by_cases h1 : sizeErr l s zs.length = 0
  · rw [if_neg (by omega)] at h
    obtain ⟨a, b, c, d, e⟩ := sizeErr_ok h1
    exact ⟨a, b, c, d, e, h⟩
  · rw [if_pos h1] at h
    exact absurd h h1

theorem codeErr_ok {us : List (Nat × Nat)} (h : (codeErr us).2 = 0) : 1 ≤ us.length ∧ us.length ≤ 32 ∧ (firstErr 0 (smpErrs .f32 3 us)).2 = 0 := by
  unfold codeErr at h
  by_cases h1 : us.length = 0
  · rw [if_pos h1] at h; cases h
  · rw [if_neg h1] at h
    by_cases h2 : 32 < us.length
    · rw [if_pos h2] at h; cases h
    · rw [if_neg h2] at h
      by_cases h3 : (firstErr 0 (smpErrs .f32 3 us)).2 = 0
      · exact ⟨by omega, by omega, h3⟩
      · rw [if_pos h3] at h; exact absurd h h3

theorem sumTo_bound (a : Nat → Int) (B n : Nat) (h : ∀ k, k < n → (a k).natAbs ≤ B) : ∀ k, k ≤ n → (sumTo a k).natAbs ≤ k * B := by
  intro k
  induction k with
  | zero => intro _; simp [sumTo]
  | succ k ih =>
    intro hk
    have h1 := ih (by omega)
    have h2 := h k (by omega)
    simp only [sumTo]
    rw [Nat.succ_mul]
    omega

/-- the compressed values written so far, and zeros -/
def compPart (zs us : List (Nat × Nat)) (S S' n k : Nat) : List Value :=
  (List.range n).map fun i => if i < k then .complex .f64 (compAt zs us S S' i).1 (compAt zs us S S' i).2 else .complex .f64 0 0

theorem compPart_zero (zs us : List (Nat × Nat)) (S S' n : Nat) : compPart zs us S S' n 0 = List.replicate n (.complex .f64 0 0) := by
  unfold compPart
  simp
  exact (List.eq_replicate_iff.2 ⟨by simp, by simp⟩)

theorem compPart_length (zs us : List (Nat × Nat)) (S S' n k : Nat) : (compPart zs us S S' n k).length = n := by simp [compPart]

theorem compPart_step (zs us : List (Nat × Nat)) (S S' n k : Nat) : (compPart zs us S S' n k).set k (.complex .f64 (compAt zs us S S' k).1 (compAt zs us S S' k).2) = compPart zs us S S' n (k + 1) := by
  apply List.ext_getElem
  · simp [compPart]
  · intro i h1 h2
    rw [List.getElem_set]
    simp only [compPart, List.getElem_map, List.getElem_range]
    by_cases h : k = i
    · subst h; simp
    · rw [if_neg h]
      by_cases h3 : i < k
      · rw [if_pos h3, if_pos (by omega)]
      · rw [if_neg h3, if_neg (by omega)]

theorem compPart_at (zs us : List (Nat × Nat)) (S S' n k : Nat) (h : k < n) : (compPart zs us S S' n k)[k]? = some (.complex .f64 0 0) := by
  simp [compPart, List.getElem?_map, List.getElem?_range h]

theorem compPart_end (zs us : List (Nat × Nat)) (S S' n : Nat) : compPart zs us S S' n n = cvals .f64 (compList zs us S S' n) := by
  unfold compPart cvals compList
  rw [List.map_map]
  apply List.map_congr_left
  intro i hi
  rw [if_pos (List.mem_range.1 hi)]
  rfl

theorem run_store_ok {P : Program} {u : Value} (w : World) (a : Addr) {v : Value} (hv : v.oneCell' = true) (h : w.cell? a = some u) (hf : w.frozen? a = false) : (store a v).run P w = .ok () (w.setCell a v) := by
  rw [run_store P w a v _ hv, h]
  simp [hf]

theorem alloc3_blocks (w : World) (A B C : Obj) : (((w.alloc A).alloc B).alloc C).heap[w.heap.size]? = some A ∧ (((w.alloc A).alloc B).alloc C).heap[w.heap.size + 1]? = some B ∧ (((w.alloc A).alloc B).alloc C).heap[w.heap.size + 1 + 1]? = some C := by
  refine ⟨?_, ?_, ?_⟩
  · rw [Below.heap_alloc _ _ _ (by simp; omega), Below.heap_alloc _ _ _ (by simp), heap_alloc_new]
  · rw [Below.heap_alloc _ _ _ (by simp)]
    have := heap_alloc_new (w.alloc A) B
    rwa [World.size_alloc] at this
  · have := heap_alloc_new ((w.alloc A).alloc B) C
    rwa [World.size_alloc, World.size_alloc] at this

theorem enters_sumOver : ∀ args w, (callFunc 24 args).run Try.prog w = .ok (.enter 24 args) w := enters_of Try.func24 (by kernel_rfl) rfl

/-- what Compress answers where all is right -/
def CompOk (zs us : List (Nat × Nat)) (L S S' : Nat) (w : World) (e : Ending) (w' : World) : Prop :=
  ∃ g, e = .returned (.tuple #[.agg #[.int .i64 L, .int .i64 S', .slice (some ⟨g, 0, none⟩) (L * S') (L * S')], .int .i64 0]) ∧ w.heap.size ≤ g ∧ Below w.heap.size w w' ∧
    w'.ownsRow w.heap.size 43 1 (.slice (some ⟨g, 0, none⟩) (L * S') (L * S')) (L * S') (cvals .f64 (compList zs us S S' (L * S')))

theorem cvals_get {k : FloatKind} {zs : List (Nat × Nat)} {i : Nat} (h : i < zs.length) : (cvals k zs)[i]? = some (.complex k (zs.getD i (0, 0)).1 (zs.getD i (0, 0)).2) := by
  simp [cvals, List.getElem?_eq_getElem h, List.getD_eq_getElem?_getD]

/-- ONE SUM OF THE COMPRESSION, in a world in which what lay in w lies as it lay -/
theorem sumOver_comp (zs us : List (Nat × Nat)) (f : Nat) (iad cad : Option Addr) (icap ccap Bi Bf Bc : Nat) (w W : World)
    (hblk : ∀ b, b < w.heap.size → W.heap[b]? = w.heap[b]?)
    (c1 : W.cell? ⟨Bi, 0 + 2, none⟩ = some (.slice iad zs.length icap)) (c2 : W.cell? ⟨Bf, 0, none⟩ = some (.int .i64 f)) (c3 : W.cell? ⟨Bc, 0, none⟩ = some (.slice cad us.length ccap))
    (hic : cvals .f32 zs = [] ∨ ∃ b off, iad = some ⟨b, off, none⟩ ∧ b < w.heap.size ∧ ∀ j x, (cvals .f32 zs)[j]? = some x → w.cell? ⟨b, off + j, none⟩ = some x)
    (hcc : cvals .f32 us = [] ∨ ∃ b off, cad = some ⟨b, off, none⟩ ∧ b < w.heap.size ∧ ∀ j x, (cvals .f32 us)[j]? = some x → w.cell? ⟨b, off + j, none⟩ = some x)
    (RI : Right .f32 2047 zs) (RC : Right .f32 3 us) (hm1 : 1 ≤ us.length) (hm2 : us.length ≤ 32) (hf : f + us.length ≤ zs.length) (hz : zs.length ≤ 4096) :
    Calls Try.prog 24 #[.int .i64 us.length, .func (.func 25) #[] #[.pointer (some ⟨Bi, 0, none⟩), .pointer (some ⟨Bf, 0, none⟩), .pointer (some ⟨Bc, 0, none⟩)]] W
      fun e w' => e = .returned (.complex .f64 (enc Ieee.double (compRe zs us f)) (enc Ieee.double (compIm zs us f))) ∧ ∃ q, w' = W.drewN q := by
  have hic' : ∃ b off, iad = some ⟨b, off, none⟩ ∧ b < w.heap.size ∧ ∀ j x, (cvals .f32 zs)[j]? = some x → w.cell? ⟨b, off + j, none⟩ = some x := by
    rcases hic with h | h
    · have : zs = [] := by simpa [cvals] using h
      rw [this] at hf
      have h0 : f + us.length ≤ 0 := hf
      omega
    · exact h
  have hcc' : ∃ b off, cad = some ⟨b, off, none⟩ ∧ b < w.heap.size ∧ ∀ j x, (cvals .f32 us)[j]? = some x → w.cell? ⟨b, off + j, none⟩ = some x := by
    rcases hcc with h | h
    · have : us = [] := by simpa [cvals] using h
      rw [this] at hm1; simp at hm1
    · exact h
  obtain ⟨bi, oi, rfl, hbi, hci⟩ := hic'
  obtain ⟨bc, oc, rfl, hbc, hcd⟩ := hcc'
  have key : ∀ k : Nat, ∃ pq : Nat × Nat, k < us.length →
      ((∀ q, Calls Try.prog 25 #[.int .i64 k, .pointer (some ⟨Bi, 0, none⟩), .pointer (some ⟨Bf, 0, none⟩), .pointer (some ⟨Bc, 0, none⟩)] (W.drewN q) fun e w' => e = .returned (.complex .f64 pq.1 pq.2) ∧ ∃ m, w' = W.drewN m) ∧
      Rep Ieee.double pq.1 (re .f32 zs (f + k) * re .f32 us k + im .f32 zs (f + k) * im .f32 us k) ∧ Rep Ieee.double pq.2 (im .f32 zs (f + k) * re .f32 us k - re .f32 zs (f + k) * im .f32 us k)) := by
    intro k
    by_cases hk : k < us.length
    · have hfk : f + k < zs.length := by omega
      obtain ⟨a1, a2, a3, a4⟩ := RI (f + k) hfk
      obtain ⟨b1, b2, b3, b4⟩ := RC k hk
      have d1 : W.cell? ⟨bi, oi + (f + k), none⟩ = some (.complex .f32 (zs.getD (f + k) (0, 0)).1 (zs.getD (f + k) (0, 0)).2) :=
        (World.cell?_of_block (w := w) (a := ⟨bi, oi + (f + k), none⟩) (hblk bi hbi)).trans (hci _ _ (cvals_get hfk))
      have d2 : W.cell? ⟨bc, oc + k, none⟩ = some (.complex .f32 (us.getD k (0, 0)).1 (us.getD k (0, 0)).2) :=
        (World.cell?_of_block (w := w) (a := ⟨bc, oc + k, none⟩) (hblk bc hbc)).trans (hcd _ _ (cvals_get hk))
      obtain ⟨p, q, h1, h2, h3⟩ := Compress1_any k f zs.length icap us.length ccap Bi Bf Bc bi oi bc oc _ _ _ _ _ _ _ _ W (by omega) (by omega) c1 c2 c3 (by omega) (by omega) d1 d2 a1 a2 b1 b2 a3 a4 b3 b4
      exact ⟨(p, q), fun _ => ⟨h1, h2, h3⟩⟩
    · exact ⟨(0, 0), fun h => absurd h hk⟩
  obtain ⟨F, hF⟩ := Classical.axiomOfChoice key
  have hb : ∀ k, k < us.length → (re .f32 zs (f + k) * re .f32 us k + im .f32 zs (f + k) * im .f32 us k).natAbs ≤ 12282 ∧ (im .f32 zs (f + k) * re .f32 us k - re .f32 zs (f + k) * im .f32 us k).natAbs ≤ 12282 := by
    intro k hk
    obtain ⟨-, -, a3, a4⟩ := RI (f + k) (by omega)
    obtain ⟨-, -, b3, b4⟩ := RC k hk
    have hm : ∀ a c : Int, a.natAbs ≤ 2047 → c.natAbs ≤ 3 → (a * c).natAbs ≤ 6141 := by
      intro a c h1 h2
      rw [Int.natAbs_mul]
      exact Nat.le_trans (Nat.mul_le_mul h1 h2) (by decide)
    have t1 := hm _ _ a3 b3
    have t2 := hm _ _ a4 b4
    have t3 := hm _ _ a4 b3
    have t4 := hm _ _ a3 b4
    constructor <;> omega
  have hs1 := sumTo_bound (fun k => re .f32 zs (f + k) * re .f32 us k + im .f32 zs (f + k) * im .f32 us k) 12282 us.length (fun k hk => (hb k hk).1)
  have hs2 := sumTo_bound (fun k => im .f32 zs (f + k) * re .f32 us k - re .f32 zs (f + k) * im .f32 us k) 12282 us.length (fun k hk => (hb k hk).2)
  refine sumOver_any 25 enters_Compress1 _ us.length (by omega) (fun k => (F k).1) (fun k => (F k).2) (fun k => re .f32 zs (f + k) * re .f32 us k + im .f32 zs (f + k) * im .f32 us k)
    (fun k => im .f32 zs (f + k) * re .f32 us k - re .f32 zs (f + k) * im .f32 us k) W (fun k hk => (hF k hk).2) (fun k hk => ⟨Nat.le_trans (hb k hk).1 (by decide), Nat.le_trans (hb k hk).2 (by decide)⟩)
    (fun k hk => ⟨Nat.le_trans (hs1 k hk) ?_, Nat.le_trans (hs2 k hk) ?_⟩) (fun k hk q => (hF k hk).1 q)
  · exact Nat.le_trans (Nat.mul_le_mul_right _ (Nat.le_trans hk hm2)) (by decide)
  · exact Nat.le_trans (Nat.mul_le_mul_right _ (Nat.le_trans hk hm2)) (by decide)

/-- what holds at the head of Compress's loop -/
structure CompInv (zs us : List (Nat × Nat)) (L S S' n n' m : Nat) (iad cad : Option Addr) (icap ccap G g : Nat) (w : World) (k : Nat) (wr : World) : Prop where
  h0 : wr.heap[w.heap.size]? = some (.cells #[.int .i64 L, .int .i64 S, .slice iad n icap] 29 (0, 0))
  h1 : wr.heap[w.heap.size + 1]? = some (.cells #[.slice cad m ccap] 27 (0, 0))
  h2 : wr.heap[w.heap.size + 1 + 1]? = some (.cells #[.int .i64 0, .int .i64 0, .slice none 0 0] 34 (0, 0))
  h3 : wr.heap[G]? = some (.cells #[.int .i64 L, .int .i64 S', .slice (some ⟨g, 0, none⟩) n' n'] 34 (0, 0))
  hb : Below w.heap.size w wr
  ho : wr.ownsRow w.heap.size 43 1 (.slice (some ⟨g, 0, none⟩) n' n') n' (compPart zs us S S' n' k)

theorem CompInv.ne {zs us : List (Nat × Nat)} {L S S' n n' m : Nat} {iad cad : Option Addr} {icap ccap G g : Nat} {w wr : World} {k : Nat} (h : CompInv zs us L S S' n n' m iad cad icap ccap G g w k wr) : G ≠ g := by
  intro e
  have h1 := h.h3
  rcases h.ho.2 with ⟨h2, -⟩ | ⟨g', cap, cur, h2, -, h3, -⟩
  · cases h2
  · cases h2
    rw [e, h3] at h1
    injection h1 with h1
    injection h1 with _ h1 _
    exact absurd h1 (by decide)

/-- the loop's invariant a round later -/
theorem CompInv.next {zs us : List (Nat × Nat)} {L S S' n n' m : Nat} {iad cad : Option Addr} {icap ccap G g : Nat} {w wr : World} {k q : Nat} (h : CompInv zs us L S S' n n' m iad cad icap ccap G g w k wr) (hG : G ≠ g) (hg : w.heap.size + 1 + 1 < g) (f : Nat) (v : Value) (hv : v = .complex .f64 (compAt zs us S S' k).1 (compAt zs us S S' k).2) :
    CompInv zs us L S S' n n' m iad cad icap ccap G g w (k + 1) (((wr.alloc (.cells #[.int .i64 f] 3)).drewN q).setCell ⟨g, k, none⟩ v) := by
  have hgl := (h.ho.lt g rfl).2
  have old : ∀ i, i < wr.heap.size → i ≠ g → (((wr.alloc (.cells #[.int .i64 f] 3)).drewN q).setCell ⟨g, k, none⟩ v).heap[i]? = wr.heap[i]? := fun i hi hne =>
    (Below.heap_setCell _ _ _ _ hne).trans (Below.heap_alloc _ _ _ hi)
  refine ⟨(old _ (lt_of_block h.h0) (by omega)).trans h.h0, (old _ (lt_of_block h.h1) (by omega)).trans h.h1, (old _ (lt_of_block h.h2) (by omega)).trans h.h2, (old _ (lt_of_block h.h3) hG).trans h.h3, ?_, ?_⟩
  · exact (((h.hb.alloc h.hb.size _).trans (below_drewN' _ _ q)).setCell (p := ⟨g, k, none⟩) (by show w.heap.size ≤ g; omega) _)
  · have h1 := (h.ho.alloc (.cells #[.int .i64 f] 3))
    have h2 : ((wr.alloc (.cells #[.int .i64 f] 3)).drewN q).ownsRow w.heap.size 43 1 (.slice (some ⟨g, 0, none⟩) n' n') n' (compPart zs us S S' n' k) := h1
    have h3 := (h2.stored k v).1
    rw [hv, compPart_step] at h3
    rw [hv]
    exact h3

set_option maxRecDepth 100000 in
set_option maxHeartbeats 1000000 in
theorem Compress_ok (L S m : Nat) (iv cv : Value) (zs us : List (Nat × Nat)) (w : World) (hiv : Sl w iv (cvals .f32 zs)) (hcv : Sl w cv (cvals .f32 us))
    (hz : ∀ z ∈ zs, z.1 < 2 ^ 32 ∧ z.2 < 2 ^ 32) (hu : ∀ z ∈ us, z.1 < 2 ^ 32 ∧ z.2 < 2 ^ 32) (hL1 : 1 ≤ L) (hL : L ≤ 64) (hS1 : 1 ≤ S) (hS : S ≤ 64) (hm : us.length = m)
    (hei : (dataErr .f32 2047 L S zs).2 = 0) (hec : (codeErr us).2 = 0) (hmS : m ≤ S) :
    Calls Try.prog 9 #[.agg #[.int .i64 L, .int .i64 S, iv], cv] w (CompOk zs us L S (S - m + 1) w) := by
  have C1 := Lib.hid (fun w' (hb : Below w.heap.size w w') => CheckImage_any L S iv zs w' ⟨by omega, by omega⟩ ⟨by omega, by omega⟩ (hiv.below hb (Nat.le_refl _)))
  have C2 := Lib.hid (fun w' (hb : Below w.heap.size w w') => CheckCode_any cv us w' (hcv.below hb (Nat.le_refl _)))
  obtain ⟨-, -, -, -, hlen', hr1⟩ := dataErr_ok hei
  have hlen : zs.length = L * S := by exact_mod_cast hlen'
  obtain ⟨hm1, hm2, hr2⟩ := codeErr_ok hec
  have RI : Right .f32 2047 zs := right_of_ok (by decide) hz hr1
  have RC : Right .f32 3 us := right_of_ok (by decide) hu hr2
  rw [hm] at hm1 hm2
  have HRI := Lib.hid RI
  have HRC := Lib.hid RC
  clear hlen' hr1 hr2 RI RC
  obtain ⟨R1, hR1⟩ : ∃ R, R = dataErr .f32 2047 L S zs := ⟨_, rfl⟩
  obtain ⟨R2, hR2⟩ : ∃ R, R = codeErr us := ⟨_, rfl⟩
  rw [← hR1] at C1 hei
  rw [← hR2] at C2 hec
  obtain ⟨R11, R12⟩ := R1
  obtain ⟨R21, R22⟩ := R2
  dsimp only at C1 C2 hei hec
  subst hei hec
  obtain ⟨iad, icap, rfl, hil, hic⟩ := hiv
  obtain ⟨cad, ccap, rfl, hcl, hcc⟩ := hcv
  have e1 : (cvals .f32 zs).length = L * S := by simp [cvals, hlen]
  have e2 : (cvals .f32 us).length = m := by simp [cvals, hm]
  rw [e1] at C1 hil ⊢
  rw [e2] at C2 hcl ⊢
  have hLS : L * S ≤ 4096 := Nat.le_trans (Nat.mul_le_mul hL hS) (by decide)
  generalize hn : L * S = n at *
  have HIC := Lib.hid hic
  have HCC := Lib.hid hcc
  have HN := Lib.hid hn
  have HL := Lib.hid hlen
  have HM := Lib.hid hm
  clear hic hcc hz hu hn hlen hm e1 e2 hR1 hR2
  go_enter Try.func9, Try.ntmps9
  go_wp2_with fail
  obtain ⟨a0, a1, a2⟩ := alloc3_blocks w (.cells #[.int .i64 L, .int .i64 S, .slice iad n icap] 29) (.cells #[.slice cad m ccap] 27) (.cells #[.int .i64 0, .int .i64 0, .slice none 0 0] 34)
  have hW := ((((Below.refl w.heap.size w).alloc (Nat.le_refl _) (.cells #[.int .i64 L, .int .i64 S, .slice iad n icap] 29)).alloc (by simp) (.cells #[.slice cad m ccap] 27)).alloc (by simp; omega) (.cells #[.int .i64 0, .int .i64 0, .slice none 0 0] 34))
  refine (C1.out _ hW).mono ?_
  rintro e w1 ⟨rfl, hb1⟩
  have HA : Hid (w1.heap[w.heap.size]? = some (.cells #[.int .i64 L, .int .i64 S, .slice iad n icap] 29 (0, 0)) ∧ w1.heap[w.heap.size + 1]? = some (.cells #[.slice cad m ccap] 27 (0, 0)) ∧
      w1.heap[w.heap.size + 1 + 1]? = some (.cells #[.int .i64 0, .int .i64 0, .slice none 0 0] 34 (0, 0))) :=
    ⟨(hb1.block _ (by simp; omega)).trans a0, (hb1.block _ (by simp)).trans a1, (hb1.block _ (by simp)).trans a2⟩
  have HB1 := Lib.hid (hW.trans (hb1.mono (by simp; omega)))
  clear a0 a1 a2 hb1 hW C1
  obtain ⟨b0, b1, b2, -, -, -, -⟩ := three_cells HA.out.1
  have b3 := cell_of_one HA.out.2.1
  go_wp2_with fail
  refine (C2.out _ HB1.out).mono ?_
  rintro e w2 ⟨rfl, q, rfl⟩
  go_wp2_with fail
  have e5 : (S : Int) - m + 1 = ((S - m + 1 : Nat) : Int) := by omega
  rw [e5]
  clear e5
  generalize hS' : S - m + 1 = S' at *
  refine (newField_any L S' hL (by omega) _).mono ?_
  rintro e w3 ⟨g, rfl, hg, hb3, hown⟩
  generalize hn' : L * S' = n' at *
  have hn'2 : n' ≤ 4096 := by rw [← hn']; exact Nat.le_trans (Nat.mul_le_mul hL (show S' ≤ 64 by omega)) (by decide)
  have HN' := Lib.hid hn'
  have HS' := Lib.hid hS'
  clear hn' hS'
  have hsz : w.heap.size + 1 + 1 < w1.heap.size := lt_of_block HA.out.2.2
  have I0 : Hid (CompInv zs us L S S' n n' m iad cad icap ccap w3.heap.size g w 0 (w3.alloc (.cells #[.int .i64 L, .int .i64 S', .slice (some ⟨g, 0, none⟩) n' n'] 34))) := by
    have hs3 := hb3.size
    simp at hs3
    have old : ∀ i, i ≤ w.heap.size + 1 + 1 → (w3.alloc (.cells #[.int .i64 L, .int .i64 S', .slice (some ⟨g, 0, none⟩) n' n'] 34)).heap[i]? = w1.heap[i]? := fun i hi =>
      (Below.heap_alloc _ _ _ (by omega)).trans (hb3.block i (by simp; omega))
    refine ⟨(old _ (by omega)).trans HA.out.1, (old _ (by omega)).trans HA.out.2.1, (old _ (by omega)).trans HA.out.2.2, heap_alloc_new _ _, ?_, ?_⟩
    · exact ((HB1.out.trans (below_drewN' _ _ q)).trans (hb3.mono (by simp; omega))).alloc (by omega) _
    · rw [compPart_zero]
      have := hown.alloc (.cells #[.int .i64 L, .int .i64 S', .slice (some ⟨g, 0, none⟩) n' n'] 34)
      obtain ⟨p1, p2⟩ := this
      refine ⟨p1, ?_⟩
      rcases p2 with p2 | ⟨g', cap, cur, p3, p4, p5⟩
      · exact .inl p2
      · exact .inr ⟨g', cap, cur, p3, by simp at p4; omega, p5⟩
  have HGN : Hid (w.heap.size + 1 + 1 < g) := Nat.lt_of_lt_of_le hsz hg
  have hd : decide (S < m) = false := by simp; omega
  clear hb3 hown hg hsz HA HB1 b0 b1 b2 b3 C2
  go_wp2_with fail
  go_loopw [49] (fun i wr => ∃ k : Nat, k ≤ n' ∧ i = .int .i64 k ∧ Hid (CompInv zs us L S S' n n' m iad cad icap ccap w3.heap.size g w k wr)) (fun i _ => n' - (intOf i).toNat)
  case atStart => exact ⟨0, Nat.zero_le _, rfl, I0⟩
  case round =>
    obtain ⟨k, hk, rfl, IK⟩ := hrel
    clear I0
    obtain ⟨wz, rfl⟩ : ∃ wz : World, wz = wr := ⟨_, rfl⟩
    obtain ⟨c0, c1, c2, -, -, -, -⟩ := three_cells IK.out.h0
    have c3 := cell_of_one IK.out.h1
    obtain ⟨g0, g1, g2, -, -, -, -⟩ := three_cells IK.out.h3
    have l0 := lt_of_block IK.out.h0
    have l1 := lt_of_block IK.out.h1
    have l3 := lt_of_block IK.out.h3
    by_cases hlt : k < n'
    · have hS'1 : 1 ≤ S' := by have := HS'.out; omega
      have hS'2 : S' ≤ 64 := by have := HS'.out; omega
      have d1 : k / S' < L := (Nat.div_lt_iff_lt_mul (by omega)).2 (by have := HN'.out; rw [Nat.mul_comm] at this; rw [Nat.mul_comm]; omega)
      have d2 : k % S' < S' := Nat.mod_lt _ (by omega)
      have d3 : k / S' * S ≤ 4096 := Nat.le_trans (Nat.mul_le_mul (show k / S' ≤ 64 by omega) hS) (by decide)
      have d4 : k / S' * S + S ≤ n := by
        rw [← HN.out, ← Nat.succ_mul]; exact Nat.mul_le_mul_right _ d1
      obtain ⟨f, hf⟩ : ∃ f, f = k / S' * S + k % S' := ⟨_, rfl⟩
      have hval : Hid (wrap64 (wrap64 (wrap64 ((k : Int) / S') * S) + (k : Int) % S') = (f : Int)) := by
        have q0 : ((k : Int) / S') = ((k / S' : Nat) : Int) := (Int.natCast_ediv k S').symm
        have q1 : ((k : Int) % S') = ((k % S' : Nat) : Int) := (Int.natCast_emod k S').symm
        have d5 : k / S' ≤ k := Nat.div_le_self _ _
        unfold Hid
        rw [q0, q1, IntWalk.wrap64_in ((k / S' : Nat) : Int) ⟨Int.le_trans (by decide) (Int.natCast_nonneg _), Int.le_trans (Int.ofNat_le.2 (Nat.le_trans d5 (Nat.le_trans hk hn'2))) (by decide)⟩, ← Int.natCast_mul, IntWalk.wrap64_in ((k / S' * S : Nat) : Int) ⟨by omega, by omega⟩, ← Int.natCast_add, IntWalk.wrap64_in _ ⟨by omega, by omega⟩, hf]
      have hfm : f + m ≤ n := by
        have := HS'.out
        omega
      have HF := Lib.hid hf
      clear d1 d2 d3 d4 hf
      go_wp2_with fail
      go_region
      simp only [hval.out]
      clear hval
      have CS : ∀ W : World, W.heap = (wz.alloc (.cells #[.int .i64 f] 3)).heap → Calls Try.prog 24 #[.int .i64 m, .func (.func 25) #[] #[.pointer (some ⟨w.heap.size, 0, none⟩), .pointer (some ⟨wz.heap.size, 0, none⟩), .pointer (some ⟨w.heap.size + 1, 0, none⟩)]] W
          fun e w' => e = .returned (.complex .f64 (enc Ieee.double (compRe zs us f)) (enc Ieee.double (compIm zs us f))) ∧ ∃ q, w' = W.drewN q := by
        intro W hW
        have hblk : ∀ b, b < wz.heap.size → W.heap[b]? = wz.heap[b]? := fun b hb => by rw [hW]; exact Below.heap_alloc _ _ _ hb
        have r1 : W.cell? ⟨w.heap.size, 0 + 2, none⟩ = some (.slice iad zs.length icap) := by rw [HL.out]; exact (World.cell?_of_block (w := wz) (a := ⟨w.heap.size, 2, none⟩) (hblk _ l0)).trans c2
        have r2 : W.cell? ⟨wz.heap.size, 0, none⟩ = some (.int .i64 f) := by
          have : W.heap[wz.heap.size]? = some (.cells #[.int .i64 f] 3 (0, 0)) := by rw [hW]; exact heap_alloc_new _ _
          exact cell_of_one this
        have r3 : W.cell? ⟨w.heap.size + 1, 0, none⟩ = some (.slice cad us.length ccap) := by rw [HM.out]; exact (World.cell?_of_block (w := wz) (a := ⟨w.heap.size + 1, 0, none⟩) (hblk _ l1)).trans c3
        have := sumOver_comp zs us f iad cad icap ccap w.heap.size wz.heap.size (w.heap.size + 1) w W (fun b hb => (hblk b (Nat.lt_trans hb l0)).trans (IK.out.hb.block b hb)) r1 r2 r3 HIC.out HCC.out HRI.out HRC.out (by rw [HM.out]; omega) (by rw [HM.out]; omega) (by rw [HM.out, HL.out]; exact hfm) (by rw [HL.out]; exact hLS)
        rw [HM.out] at this
        exact this
      have HCS := Lib.hid CS
      clear CS
      have l4 := (IK.out.ho.lt g rfl).2
      have c4 : wz.cell? ⟨g, k, none⟩ = some (.complex .f64 0 0) := (IK.out.ho.cellAt k (by omega)).trans (compPart_at zs us S S' n' k hlt)
      have c5 : wz.frozen? ⟨g, k, none⟩ = false := IK.out.ho.frozenAt k
      have hst : ∀ (q X Y : Nat), (store ⟨g, k, none⟩ (.complex .f64 X Y)).run Try.prog ((wz.alloc (.cells #[.int .i64 f] 3)).drewN q) = .ok () (((wz.alloc (.cells #[.int .i64 f] 3)).drewN q).setCell ⟨g, k, none⟩ (.complex .f64 X Y)) := by
        intro q X Y
        refine run_store_ok (u := .complex .f64 0 0) _ _ rfl ?_ ?_
        · exact (World.cell?_of_block (w := wz) (a := ⟨g, k, none⟩) (Below.heap_alloc _ _ _ l4)).trans c4
        · exact (World.frozen?_of_block (w := wz) (a := ⟨g, k, none⟩) (Below.heap_alloc _ _ _ l4)).trans c5
      have hGg := IK.out.ne
      have hGg' : g ≠ w3.heap.size := fun h => hGg h.symm
      have hgn := HGN.out
      have hgn' : g ≠ w.heap.size + 1 := by omega
      clear hgn
      go_wp2_with fail
      go_region_held3 (fun W => W.cell? ⟨w3.heap.size, 2, none⟩ = some (.slice (some ⟨g, 0, none⟩) n' n') ∧ W.cell? ⟨w.heap.size + 1, 0, none⟩ = some (.slice cad m ccap)) (go_keep) (first | (go_at_call 24; refine (HCS.out _ (by exact rfl)).mono ?_; rintro e w' ⟨rfl, q', rfl⟩))
      go_wp2_with fail
      go_roundw
      case rel =>
        refine ⟨k + 1, by omega, by go_num, IK.out.next hGg HGN.out f _ ?_⟩
        · unfold compAt; rw [← HF.out]
      case measure => simp [intOf]; omega
    · obtain rfl : k = n' := by omega
      obtain ⟨z0, z1, z2, y0, y1, y2, l2⟩ := three_cells IK.out.h2
      have HS2 := HS'.out
      have HN2 := HN'.out
      have ho := IK.out.ho
      rw [compPart_end] at ho
      have HO := Lib.hid ho
      have HB := Lib.hid IK.out.hb
      have hgn := HGN.out
      have HX : Hid (k = L * S') := HN2.symm
      clear ho IK HS2 HN2
      go_wp2_with fail
      refine bodyPost_ret (v := .tuple #[.agg #[.int .i64 L, .int .i64 S', .slice (some ⟨g, 0, none⟩) k k], .int .i64 0]) (by simp [results, Try.results9, go_sem, z0, z1, z2]) rfl ⟨g, ?_, by omega, ?_, ?_⟩
      · rw [← HX.out]
      · exact (((HB.out.setCell (p := ⟨w.heap.size + 1 + 1, 0, none⟩) (by show w.heap.size ≤ w.heap.size + 1 + 1; omega) _).setCell (p := ⟨w.heap.size + 1 + 1, 1, none⟩) (by show w.heap.size ≤ w.heap.size + 1 + 1; omega) _).setCell (p := ⟨w.heap.size + 1 + 1, 2, none⟩) (by show w.heap.size ≤ w.heap.size + 1 + 1; omega) _)
      · rw [← HX.out]
        have hne : (Value.slice (some ⟨g, 0, none⟩) k k).ownBlock ≠ some (w.heap.size + 1 + 1) := by
          intro h
          simp only [Value.ownBlock, Option.some.injEq] at h
          omega
        exact ownsRow_setCell_other (ownsRow_setCell_other (ownsRow_setCell_other HO.out hne _) hne _) hne _
end Go.Proofs.Ytadajelonekpmaa
