import Derived.Test.YtmiaglkkjncfnaaDoorEm
import Derived.Deep.RegionHeld3
import Derived.Lib.ItoaLen
namespace Go.Proofs.YtmiaglkkjncfnaaDoor
open Go.RowKit Go.Proofs.YtmiaglkkjncfnaaDoor.Flt

/-- the parts of j samples from the place a on -/
def rowTo (zs : List (Nat × Nat)) (a : Nat) : Nat → List Int
  | 0 => []
  | j + 1 => rowTo zs a j ++ [re .f32 zs (a + j), im .f32 zs (a + j)]
theorem rowTo_len (zs : List (Nat × Nat)) (a : Nat) : ∀ j, (rowTo zs a j).length = 2 * j
  | 0 => rfl
  | j + 1 => by rw [rowTo, List.length_append, rowTo_len zs a j]; simp; omega

theorem itoa_len (n : Int) (h : I64 n) : (Lib.itoa n).length ≤ 21 := by
  obtain ⟨h1, h2⟩ := h
  unfold Lib.itoa
  split
  · rw [List.length_cons, Lib.decDigits_length]
    have := Lib.nDigits_le20 n.natAbs (by omega)
    omega
  · rw [Lib.decDigits_length]
    have := Lib.nDigits_le20 n.toNat (by omega)
    omega

theorem joinTail_len (r : List (List UInt8)) (h : ∀ x ∈ r, x.length ≤ 21) : (Lib.joinTail [32] r).length ≤ 22 * r.length := by
  induction r with
  | nil => simp [Lib.joinTail]
  | cons x r ih =>
    have h1 := ih fun y hy => h y (List.mem_cons_of_mem _ hy)
    have h2 := h x List.mem_cons_self
    have : Lib.joinTail [32] (x :: r) = ([32] ++ x) ++ Lib.joinTail [32] r := by simp [Lib.joinTail]
    rw [this, List.length_append, List.length_append, List.length_cons]
    simp
    omega

theorem joinOf_len (xs : List Int) (h : ∀ x ∈ xs, I64 x) : (joinOf xs).length ≤ 22 * xs.length := by
  unfold joinOf
  cases xs with
  | nil => simp [Lib.join_nil]
  | cons x r =>
    rw [List.map_cons, Lib.join_cons, List.length_append]
    have h1 := itoa_len x (h x List.mem_cons_self)
    have h2 := joinTail_len (r.map Lib.itoa) (by
      intro y hy
      obtain ⟨z, hz, rfl⟩ := List.mem_map.1 hy
      exact itoa_len z (h z (List.mem_cons_of_mem _ hz)))
    rw [List.length_map] at h2
    rw [List.length_cons]
    omega

theorem getD_all {xs : List Int} (h : ∀ x ∈ xs, I64 x) (i : Nat) (hi : i < xs.length) : I64 (xs.getD i 0) := by
  rw [List.getD_eq_getElem?_getD, List.getElem?_eq_getElem hi]
  exact h _ (List.getElem_mem hi)

/-- the text ahead of line l -/
def textB (zs : List (Nat × Nat)) (L S : Nat) : Nat → ByteArray
  | 0 => ⟨#[105, 109, 97, 103, 101, 32]⟩ ++ ⟨(joinOf [(L : Int), (S : Int), chkTo zs zs.length]).toArray⟩ ++ ⟨#[10]⟩
  | l + 1 => textB zs L S l ++ (⟨(joinOf (rowTo zs (l * S) S)).toArray⟩ ++ ⟨#[10]⟩)

/-- what holds beside: nothing old has changed, and the image lies in its box -/
structure ImgBox (L S n cap : Nat) (ad : Option Addr) (w wr : World) : Prop where
  hb : Below w.heap.size w wr
  h0 : wr.heap[w.heap.size]? = some (.cells #[.int .i64 L, .int .i64 S, .slice ad n cap] 50 (0, 0))

theorem ImgBox.below {L S n cap : Nat} {ad : Option Addr} {w wr w2 : World} (h : ImgBox L S n cap ad w wr) (hb : Below wr.heap.size wr w2) : ImgBox L S n cap ad w w2 :=
  ⟨h.hb.trans (hb.mono h.hb.size), (hb.block _ (lt_of_block h.h0)).trans h.h0⟩

/-- the parts of a line that are gathered so far -/
structure RowInv (zs : List (Nat × Nat)) (L S n cap a : Nat) (ad : Option Addr) (w : World) (k : Nat) (v : Value) (wr : World) : Prop where
  box : ImgBox L S n cap ad w wr
  ho : wr.ownsRow (w.heap.size + 1) 3 1 v (2 * k) (ivals (rowTo zs a k))

theorem RowInv.next {zs : List (Nat × Nat)} {L S n cap a k : Nat} {ad : Option Addr} {w wr w' : World} {v v' : Value} (h : RowInv zs L S n cap a ad w k v wr) (o : Obj)
    (hg : (wr.alloc o).grownBy w' v.ownBlock) (ho : w'.ownsRow (w.heap.size + 1) 3 1 v' (2 * k + 2) (ivals (rowTo zs a k) ++ [.int .i64 (re .f32 zs (a + k)), .int .i64 (im .f32 zs (a + k))])) :
    RowInv zs L S n cap a ad w (k + 1) v' w' := by
  have own : ∀ i, v.ownBlock = some i → w.heap.size + 1 ≤ i := fun i e => (h.ho.lt i e).1
  have l0 := lt_of_block h.box.h0
  refine ⟨⟨(h.box.hb.alloc h.box.hb.size o).grown hg (by simp; omega) (fun i e => by have := own i e; omega), ?_⟩, ?_⟩
  · rw [hg.block _ (by simp; omega) (fun e => by have := own _ e.symm; omega)]
    exact (Below.heap_alloc _ o _ l0).trans h.box.h0
  · have e : ivals (rowTo zs a (k + 1)) = ivals (rowTo zs a k) ++ [.int .i64 (re .f32 zs (a + k)), .int .i64 (im .f32 zs (a + k))] := by
      rw [rowTo]; simp [ivals]
    rw [e, show 2 * (k + 1) = 2 * k + 2 from by omega]
    exact ho

theorem two_new (w : World) (x y : Value) (t : TypeId) : ∀ (j : Nat) (u : Value), [x, y][j]? = some u → (w.alloc (.cells #[x, y] t)).cell? ((⟨w.heap.size, 0, none⟩ : Addr).add j) = some u := by
  intro j u hj
  have e : ((⟨w.heap.size, 0, none⟩ : Addr).add j) = ⟨w.heap.size, 0 + j, none⟩ := by simp [Addr.add]; exact fun h => h.symm
  rw [e, cell_of_row (w.alloc _) w.heap.size (0 + j) _ t (0, 0) (heap_alloc_new _ _), Nat.zero_add]
  simpa using hj

theorem rowTo_all {zs : List (Nat × Nat)} (hz : Right .f32 2047 zs) (a : Nat) : ∀ j, a + j ≤ zs.length → ∀ x ∈ rowTo zs a j, I64 x
  | 0, _ => by intro x hx; cases hx
  | j + 1, h => by
    intro x hx
    rw [rowTo, List.mem_append] at hx
    rcases hx with hx | hx
    · exact rowTo_all hz a j (by omega) x hx
    · obtain ⟨-, -, r3, r4⟩ := hz (a + j) (by omega)
      simp only [List.mem_cons, List.not_mem_nil, or_false] at hx
      rcases hx with rfl | rfl <;> exact ⟨by omega, by omega⟩

theorem three_alloc {w : World} {N : Nat} {a b c : Value} {t : TypeId} (h : w.heap[N]? = some (.cells #[a, b, c] t (0, 0))) (o : Obj) :
    (w.alloc o).cell? ⟨N, 0, none⟩ = some a ∧ (w.alloc o).cell? ⟨N, 1, none⟩ = some b ∧ (w.alloc o).cell? ⟨N, 2, none⟩ = some c := by
  have := three_cells ((Below.heap_alloc _ o _ (lt_of_block h)).trans h)
  exact ⟨this.1, this.2.1, this.2.2.1⟩

/-- numbers that lie in a block made for them -/
theorem Sl.made (w : World) (xs : List Int) (t : TypeId) (h : xs.length ≤ 1000) : Sl (w.alloc (.cells (ivals xs).toArray t)) (.slice (some ⟨w.heap.size, 0, none⟩) (ivals xs).length (ivals xs).length) (ivals xs) := by
  refine ⟨some ⟨w.heap.size, 0, none⟩, (ivals xs).length, rfl, by simp [ivals]; omega, .inr ⟨w.heap.size, 0, rfl, by simp, fun j x hx => ?_⟩⟩
  rw [cell_of_row (w.alloc _) w.heap.size (0 + j) _ t (0, 0) (heap_alloc_new _ _), Nat.zero_add, ← hx]
  simp

set_option maxRecDepth 100000 in
set_option maxHeartbeats 1000000 in
theorem Print_ok (L S : Nat) (iv : Value) (zs : List (Nat × Nat)) (w : World) (hiv : Sl w iv (cvals .f32 zs))
    (hz : ∀ z ∈ zs, z.1 < 2 ^ 32 ∧ z.2 < 2 ^ 32) (hL1 : 1 ≤ L) (hL : L ≤ 64) (hS1 : 1 ≤ S) (hS : S ≤ 64)
    (hei : (dataErr .f32 2047 L S zs).2 = 0) (hcap : ∀ a m c, iv = .slice a m c → m ≤ c ∧ c ≤ 9223372036854775807) (ht : Tab w) :
    Calls Tryd.prog 27 #[.agg #[.int .i64 L, .int .i64 S, iv]] w fun e w' => e = .returned (.tuple #[.string (textB zs L S L), .int .i64 0]) ∧ Below w.heap.size w w' := by
  have C1 := Lib.hid (fun w' (hb : Below w.heap.size w w') => CheckImage_any L S iv zs w' ⟨by omega, by omega⟩ ⟨by omega, by omega⟩ (hiv.below hb (Nat.le_refl _)))
  obtain ⟨-, -, -, -, hlen', hr1⟩ := dataErr_ok hei
  have hlen : zs.length = L * S := by exact_mod_cast hlen'
  have RI : Right .f32 2047 zs := right_of_ok (by decide) hz hr1
  have C2 := Lib.hid (fun w' (hb : Below w.heap.size w w') => checkOf_any L S iv zs w' (hiv.below hb (Nat.le_refl _)) RI)
  have HT := Lib.hid ht
  have HR := Lib.hid RI
  have HIV := Lib.hid hiv
  have HLS := Lib.hid hlen
  clear hlen' hr1 RI hz ht
  obtain ⟨R1, hR1⟩ : ∃ R, R = dataErr .f32 2047 L S zs := ⟨_, rfl⟩
  rw [← hR1] at C1 hei
  obtain ⟨R11, R12⟩ := R1
  dsimp only at C1 hei
  subst hei
  obtain ⟨ad, cap, rfl, hil, -⟩ := hiv
  obtain ⟨hcap1, hcap2⟩ := hcap _ _ _ rfl
  clear hcap
  obtain ⟨n, hn⟩ : ∃ n, n = (cvals .f32 zs).length := ⟨_, rfl⟩
  rw [← hn] at hcap1
  have HCP := Lib.hid (And.intro hcap1 hcap2)
  clear hcap1 hcap2
  have hn' : n = L * S := by rw [hn, ← hlen]; simp [cvals]
  rw [← hn] at C1 C2 hil HIV ⊢
  have hLS : n ≤ 4096 := by rw [hn']; exact Nat.le_trans (Nat.mul_le_mul hL hS) (by decide)
  have HN := Lib.hid hn'
  clear hn hn' hlen hR1
  have T0 : Hid (textB zs L S 0 = ⟨#[105, 109, 97, 103, 101, 32]⟩ ++ ⟨(joinOf [(L : Int), (S : Int), chkTo zs zs.length]).toArray⟩ ++ ⟨#[10]⟩) := rfl
  go_enter Tryd.func27, Tryd.ntmps27
  go_wp2_with fail
  have I0 : ImgBox L S n cap ad w (w.alloc (.cells #[.int .i64 L, .int .i64 S, .slice ad n cap] 50)) := ⟨(Below.refl _ _).alloc (Nat.le_refl _) _, heap_alloc_new _ _⟩
  refine (C1.out _ I0.hb).mono ?_
  rintro e w1 ⟨rfl, hb1⟩
  have I1 := Lib.hid (I0.below hb1)
  clear I0 hb1 C1
  obtain ⟨c0, c1, c2, -, -, -, l1⟩ := three_cells I1.out.h0
  go_wp2_with fail
  have hall : ∀ x ∈ [(L : Int), (S : Int), chkTo zs zs.length], I64 x := by
    have h1 := chkTo_b zs zs.length
    intro x hx
    simp only [List.mem_cons, List.not_mem_nil, or_false] at hx
    rcases hx with rfl | rfl | rfl <;> exact ⟨by omega, by omega⟩
  have CJ : Hid (∀ (W2 : World), ImgBox L S n cap ad w W2 → Calls Tryd.prog 58 #[.slice (some ⟨W2.heap.size, 0, none⟩) 3 3] (W2.alloc (.cells #[.int .i64 L, .int .i64 S, .int .i64 (chkTo zs zs.length)] 3))
      fun e w' => e = .returned (.string ⟨(joinOf [(L : Int), (S : Int), chkTo zs zs.length]).toArray⟩) ∧ ImgBox L S n cap ad w w') := by
    intro W2 I2
    have h1 := chkTo_b zs zs.length
    refine (joined_any (.slice (some ⟨W2.heap.size, 0, none⟩) 3 3) [(L : Int), (S : Int), chkTo zs zs.length] _ (Sl.made W2 [(L : Int), (S : Int), chkTo zs zs.length] _ (by simp)) ?_ (by simp) ?_ (HT.out.below (I2.hb.alloc I2.hb.size _))).mono ?_
    · exact getD_all hall
    · have := joinOf_len _ hall
      simp at this
      omega
    · rintro e w' ⟨rfl, hb⟩
      exact ⟨rfl, (I2.below ((Below.refl _ _).alloc (Nat.le_refl _) _)).below hb⟩
  have js : (⟨(joinOf [(L : Int), (S : Int), chkTo zs zs.length]).toArray⟩ : ByteArray).size ≤ 66 := by
    have := joinOf_len _ hall
    show (joinOf [(L : Int), (S : Int), chkTo zs zs.length]).toArray.size ≤ 66
    rw [List.size_toArray]
    exact this
  clear hall
  generalize chkTo zs zs.length = c at *
  generalize (⟨(joinOf [(L : Int), (S : Int), c]).toArray⟩ : ByteArray) = J at *
  have js1 : ¬ 9223372036854775807 < 6 + J.size := by omega
  have js2 : ¬ 9223372036854775807 < 6 + J.size + 1 := by omega
  go_region_held3 (fun W => W.cell? ⟨w.heap.size, 0, none⟩ = some (.int .i64 L) ∧ W.cell? ⟨w.heap.size, 1, none⟩ = some (.int .i64 S) ∧ W.cell? ⟨w.heap.size, 2, none⟩ = some (.slice ad n cap)) (first | exact ⟨k0, k1, k2⟩ | exact HA.out _ | go_keep)
    (first
      | (go_at_call 59; refine (C2.out _ (by exact I1.out.hb.drew)).mono ?_; rintro e w2 ⟨rfl, hb2⟩; have I2 := Lib.hid (I1.out.below (((Below.refl w1.heap.size w1).drew).trans hb2)); have HA := Lib.hid (three_alloc I2.out.h0); obtain ⟨k0, k1, k2, -, -, -, l2⟩ := three_cells I2.out.h0; clear hb2)
      | (go_at_call 58; refine (CJ.out _ (by exact I2.out)).mono ?_; rintro e w3 ⟨rfl, I3⟩; have I3 := Lib.hid I3; obtain ⟨k0, k1, k2, -, -, -, l3⟩ := three_cells I3.out.h0))
  rw [← T0.out]
  have I3' := Lib.hid I3.out
  have JS : Hid (∀ l, l ≤ L → (textB zs L S l).size ≤ 73 + l * 3000) := by
    intro l
    induction l with
    | zero => intro _; rw [T0.out]; simp [ByteArray.size_append]; have : (ByteArray.mk #[105, 109, 97, 103, 101, 32]).size = 6 := rfl; have : (ByteArray.mk #[10]).size = 1 := rfl; omega
    | succ l ih =>
      intro hl
      have h1 := ih (by omega)
      have h3 : l * S + S ≤ zs.length := by rw [HLS.out, ← Nat.succ_mul]; exact Nat.mul_le_mul_right _ hl
      have h2 := joinOf_len _ (rowTo_all HR.out (l * S) S h3)
      rw [rowTo_len] at h2
      have h4 : (⟨(joinOf (rowTo zs (l * S) S)).toArray⟩ : ByteArray).size = (joinOf (rowTo zs (l * S) S)).length := by show (joinOf (rowTo zs (l * S) S)).toArray.size = _; rw [List.size_toArray]
      have h5 : (ByteArray.mk #[10]).size = 1 := rfl
      rw [textB]
      simp only [ByteArray.size_append]
      omega
  clear js js1 js2 T0 CJ HA l2 l1 c0 c1 c2 I1 I2 C2
  clear k0 k1 k2 I3
  obtain ⟨i0, hi, hz0, hz1, hz2⟩ := info_parts Tryd.infoInt
  have HI := Lib.hid (And.intro hi (And.intro hz0 (And.intro hz1 hz2)))
  clear hi hz0 hz1 hz2
  obtain ⟨c0, c1, c2, -, -, -, l1⟩ := three_cells I3'.out.h0
  go_wp2_with fail
  go_loopw [6, 31] (fun t i wr => ∃ l : Nat, l ≤ L ∧ i = .int .i64 l ∧ t = .string (textB zs L S l) ∧ Hid (ImgBox L S n cap ad w wr)) (fun _ i _ => L - (intOf i).toNat)
  case atStart => exact ⟨0, Nat.zero_le _, rfl, rfl, I3'⟩
  case round =>
    obtain ⟨l, hl, rfl, rfl, IL⟩ := hrel
    obtain ⟨wo, rfl⟩ : ∃ wo : World, wo = wr := ⟨_, rfl⟩
    clear I3' c0 c1 c2 l1
    obtain ⟨c0, c1, c2, -, -, -, l1⟩ := three_cells IL.out.h0
    by_cases hlt : l < L
    · have hq : l * S + S ≤ n := by rw [HN.out, ← Nat.succ_mul]; exact Nat.mul_le_mul_right _ hlt
      have M1 : Hid (wrap64 ((l : Int) * S) = ((l * S : Nat) : Int)) := by unfold Hid; rw [IntWalk.wrap64_in]; exact (Int.natCast_mul l S).symm; rw [← Int.natCast_mul]; omega
      have M2 : Hid (wrap64 (((l : Int) + 1) * S) = ((l * S + S : Nat) : Int)) := by
        have e : ((l : Int) + 1) * S = ((l * S + S : Nat) : Int) := by rw [Int.add_mul, Int.natCast_add, Int.natCast_mul]; simp
        unfold Hid
        rw [e, IntWalk.wrap64_in]; omega
      have HQ := Lib.hid hq
      have HRA := Lib.hid (rowTo_all HR.out (l * S) S (by rw [HLS.out, ← Nat.succ_mul]; exact Nat.mul_le_mul_right _ hlt))
      have HTX : Hid (textB zs L S (l + 1) = textB zs L S l ++ (⟨(joinOf (rowTo zs (l * S) S)).toArray⟩ ++ ⟨#[10]⟩)) := rfl
      have jt : (textB zs L S l).size ≤ 200000 := by have := JS.out l (by omega); omega
      obtain ⟨T1, hT1⟩ : ∃ T1, T1 = textB zs L S (l + 1) := ⟨_, rfl⟩
      rw [← hT1] at HTX
      have HT1 := Lib.hid hT1
      clear hT1
      generalize textB zs L S l = T at *
      generalize l * S = q at *
      obtain ⟨r, hr⟩ : ∃ r, r = q + S := ⟨_, rfl⟩
      rw [← hr] at M2 hq
      have s1 : q ≤ r := by omega
      have s2 : r ≤ cap := by have := HCP.out.1; omega
      have s3 : cap ≤ 9223372036854775807 := HCP.out.2
      have s4 : ¬ cap = q := by omega
      have s5 : q < cap := by omega
      have HRQ := Lib.hid hr
      obtain ⟨-, b1, o1, rfl, q1, h1⟩ := HIV.out.at (by omega)
      have HCL := Lib.hid h1
      have HB1 := Lib.hid q1
      clear hr h1 q1
      have m1 := M1.out
      have m2 := M2.out
      clear M1 M2
      go_wp2_with fail
      clear m1 m2
      have esz : r - q = S := by have := HRQ.out; omega
      simp only [esz]
      have RI0 : Hid (RowInv zs L S n cap q (some ⟨b1, o1, none⟩) w 0 (.slice none 0 0) wo) := ⟨IL.out, World.ownsRow_nil _ _ _ _⟩
      clear esz s1 s2 s3 s4 s5
      go_loopw [8, 47] (fun v i wr => ∃ k : Nat, k ≤ S ∧ i = .int .i64 k ∧ Hid (RowInv zs L S n cap q (some ⟨b1, o1, none⟩) w k v wr)) (fun _ i _ => S - (intOf i).toNat)
      case atStart => exact ⟨0, Nat.zero_le _, rfl, RI0⟩
      case round =>
        obtain ⟨k, hk, rfl, IK⟩ := hrel
        obtain ⟨wz, rfl⟩ : ∃ wz : World, wz = wr := ⟨_, rfl⟩
        clear RI0 IL c0 c1 c2 l1
        by_cases hlk : k < S
        · have hqk : q + k < zs.length := by have := HQ.out; have := HN.out; have := HLS.out; omega
          have b1z : b1 < wz.heap.size := Nat.lt_of_lt_of_le HB1.out IK.out.box.hb.size
          have d1 : wz.cell? ⟨b1, o1 + q + k, none⟩ = some (.complex .f32 (zs.getD (q + k) (0, 0)).1 (zs.getD (q + k) (0, 0)).2) := by
            rw [Nat.add_assoc]
            exact (IK.out.box.hb.cell (p := ⟨b1, o1 + (q + k), none⟩) HB1.out).trans (HCL.out (q + k) _ (cvals_get hqk))
          obtain ⟨r1, r2, r3, r4⟩ := HR.out (q + k) hqk
          have g1 := fun w => run_convert_float_int (P := Tryd.prog) w 69 3 .f32 .i64 _ (re .f32 zs (q + k)) (by kernel_rfl) (by kernel_rfl) (floatToInt_of32 (toInt_rep good_single r1 (by show (re .f32 zs (q + k)).natAbs ≤ 2 ^ 24; omega) .zero) (by omega) (by omega))
          have g2 := fun w => run_convert_float_int (P := Tryd.prog) w 69 3 .f32 .i64 _ (im .f32 zs (q + k)) (by kernel_rfl) (by kernel_rfl) (floatToInt_of32 (toInt_rep good_single r2 (by show (im .f32 zs (q + k)).natAbs ≤ 2 ^ 24; omega) .zero) (by omega) (by omega))
          have HO := Lib.hid IK.out.ho
          have HNX : Hid (∀ v' w' o, (wz.alloc o).grownBy w' u8.ownBlock → w'.ownsRow (w.heap.size + 1) 3 1 v' (2 * k + 2) (ivals (rowTo zs q k) ++ [.int .i64 (re .f32 zs (q + k)), .int .i64 (im .f32 zs (q + k))]) → RowInv zs L S n cap q (some ⟨b1, o1, none⟩) w (k + 1) v' w') := fun v' w' o h1 h2 => IK.out.next o h1 h2
          have l1 := lt_of_block IK.out.box.h0
          generalize re .f32 zs (q + k) = X at *
          generalize im .f32 zs (q + k) = Y at *
          generalize (zs.getD (q + k) (0, 0)).1 = x at *
          generalize (zs.getD (q + k) (0, 0)).2 = y at *
          clear r1 r2 r3 r4 IK hqk
          go_wp2_with (first
            | (at_builtin; refine wpList_append_own _ rfl _ _ 73 rfl (w.heap.size + 1) 3 i0 (.int .i64 0) 1 8 Tryd.underlying73 HI.out.1 HI.out.2.1 HI.out.2.2.1 HI.out.2.2.2 rfl (by decide) _ _ _ rfl (HO.out.alloc _) ⟨wz.heap.size, 0, none⟩ 2 2 [.int .i64 X, .int .i64 Y] rfl rfl ?c1 ?c2 ?c3 ?c4 ?c5 ?_)
            | go_in)
          case c1 => exact two_new _ _ _ _
          case c2 => intro u hu; simp at hu; rcases hu with rfl | rfl <;> rfl
          case c3 => unfold maxLen; omega
          case c4 => omega
          case c5 => simp; omega
          intro v' w' ho' hg' _
          have HX := Lib.hid (HNX.out v' w' _ hg' ho')
          clear ho' hg' HNX HO d1 g1 g2
          go_wp2_with fail
          go_roundw
          case rel => exact ⟨k + 1, by omega, by go_num, HX⟩
          case measure => simp [intOf]; omega
        · obtain rfl : k = S := by omega
          have hlen := rowTo_len zs q k
          have CJ := Lib.hid (joined_any u8 (rowTo zs q k) wz (Sl.of_owns (by have := IK.out.ho; exact this) (by omega)) (getD_all HRA.out) (by omega) (by have := joinOf_len _ HRA.out; omega) (HT.out.below IK.out.box.hb))
          have js : (⟨(joinOf (rowTo zs q k)).toArray⟩ : ByteArray).size ≤ 3000 := by
            have := joinOf_len _ HRA.out
            show (joinOf (rowTo zs q k)).toArray.size ≤ 3000
            rw [List.size_toArray]
            omega
          have HBX := Lib.hid IK.out.box
          generalize (⟨(joinOf (rowTo zs q k)).toArray⟩ : ByteArray) = J at *
          clear IK hlen
          go_wp2_with fail
          refine CJ.out.mono ?_
          rintro e w2 ⟨rfl, hb2⟩
          have HB2 := Lib.hid (HBX.out.below hb2)
          clear hb2
          go_wp2_with fail
          rw [← HTX.out]
          go_roundw
          case rel => exact ⟨l + 1, by omega, by go_num, by rw [HT1.out], HB2⟩
          case measure => simp [intOf]; omega
    · obtain rfl : l = L := by omega
      have HF := Lib.hid IL.out.hb
      clear IL JS
      go_wp2_with fail
      go_ret2
      exact ⟨rfl, HF.out⟩
end Go.Proofs.YtmiaglkkjncfnaaDoor
