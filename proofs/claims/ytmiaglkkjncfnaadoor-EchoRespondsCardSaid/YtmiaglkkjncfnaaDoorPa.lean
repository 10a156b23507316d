import Derived.Test.YtmiaglkkjncfnaaDoorGc
import Derived.Test.YtmiaglkkjncfnaaDoorIb
namespace Go.Proofs.YtmiaglkkjncfnaaDoor
open Go.RowKit Go.Proofs.YtmiaglkkjncfnaaDoor.Flt

/-- downwards as long as the next one belongs -/
def downTo (p : Nat → Nat → Bool) : Nat → Nat
  | 0 => 0
  | k + 1 => if p (k + 1) k then downTo p k else k + 1
/-- upwards, at most f steps -/
def upTo (p : Nat → Nat → Bool) (n : Nat) : Nat → Nat → Nat
  | 0, h => h
  | f + 1, h => if h + 1 < n ∧ p h (h + 1) = true then upTo p n f (h + 1) else h
def upFrom (p : Nat → Nat → Bool) (n h : Nat) : Nat := upTo p n (n - 1 - h) h
theorem upFrom_step (p : Nat → Nat → Bool) (n h : Nat) (h1 : h + 1 < n) (h2 : p h (h + 1) = true) : upFrom p n h = upFrom p n (h + 1) := by
  unfold upFrom
  rw [show n - 1 - h = (n - 1 - (h + 1)) + 1 from by omega, upTo, if_pos ⟨h1, h2⟩]
theorem upFrom_end (p : Nat → Nat → Bool) (n h : Nat) (h1 : ¬ (h + 1 < n ∧ p h (h + 1) = true)) : upFrom p n h = h := by
  unfold upFrom
  cases hf : n - 1 - h with
  | zero => rfl
  | succ f => rw [upTo, if_neg h1]
theorem downTo_le (p : Nat → Nat → Bool) : ∀ k, downTo p k ≤ k
  | 0 => Nat.le_refl _
  | k + 1 => by
    have := downTo_le p k
    rw [downTo]
    split <;> omega
theorem upTo_b (p : Nat → Nat → Bool) (n : Nat) : ∀ f h, h < n → h ≤ upTo p n f h ∧ upTo p n f h < n
  | 0, h, hn => ⟨Nat.le_refl _, hn⟩
  | f + 1, h, hn => by
    rw [upTo]
    split
    · have := upTo_b p n f (h + 1) (by omega)
      omega
    · exact ⟨Nat.le_refl _, hn⟩

/-- the int in a cell -/
def cellInt (W : World) (a : Addr) : Nat := match W.cell? a with
  | some (.int _ n) => n.toNat
  | _ => 0

/-- a range under way, in its box -/
structure RaIn (lo hi : Nat) (w W : World) : Prop where
  hb : Below w.heap.size w W
  h0 : W.heap[w.heap.size]? = some (.cells #[.int .i64 0, .int .i64 0] 29 (0, 0))
  h1 : W.heap[w.heap.size + 1]? = some (.cells #[.int .i64 lo, .int .i64 hi] 29 (0, 0))
theorem RaIn.drewN {lo hi : Nat} {w W : World} (h : RaIn lo hi w W) (q : Nat) : RaIn lo hi w (W.drewN q) := ⟨h.hb.trans (below_drewN' _ _ q), h.h0, h.h1⟩
theorem RaIn.lo {lo hi l : Nat} {w W : World} (h : RaIn lo hi w W) : RaIn l hi w (W.setCell ⟨w.heap.size + 1, 0, none⟩ (.int .i64 l)) :=
  ⟨h.hb.setCell (p := ⟨w.heap.size + 1, 0, none⟩) (by show w.heap.size ≤ w.heap.size + 1; omega) _, (Below.heap_setCell _ _ _ _ (by show w.heap.size ≠ w.heap.size + 1; omega)).trans h.h0, blk_setCell _ _ _ _ _ _ h.h1⟩
theorem RaIn.hi {lo hi l : Nat} {w W : World} (h : RaIn lo hi w W) : RaIn lo l w (W.setCell ⟨w.heap.size + 1, 1, none⟩ (.int .i64 l)) :=
  ⟨h.hb.setCell (p := ⟨w.heap.size + 1, 1, none⟩) (by show w.heap.size ≤ w.heap.size + 1; omega) _, (Below.heap_setCell _ _ _ _ (by show w.heap.size ≠ w.heap.size + 1; omega)).trans h.h0, blk_setCell _ _ _ _ _ _ h.h1⟩
theorem RaIn.cells {lo hi : Nat} {w W : World} (h : RaIn lo hi w W) : W.cell? ⟨w.heap.size + 1, 0, none⟩ = some (.int .i64 lo) ∧ W.cell? ⟨w.heap.size + 1, 1, none⟩ = some (.int .i64 hi) ∧ W.frozen? ⟨w.heap.size + 1, 0, none⟩ = false ∧ W.frozen? ⟨w.heap.size + 1, 1, none⟩ = false :=
  ⟨cell_of_row W _ 0 _ _ _ h.h1, cell_of_row W _ 1 _ _ _ h.h1, frozen_of_row W _ 0 _ _ h.h1, frozen_of_row W _ 1 _ _ h.h1⟩

theorem RaIn.outer {lo hi : Nat} {w W : World} (h : RaIn lo hi w W) : W.cell? ⟨w.heap.size, 0, none⟩ = some (.int .i64 0) ∧ W.cell? ⟨w.heap.size, 1, none⟩ = some (.int .i64 0) ∧ W.frozen? ⟨w.heap.size, 0, none⟩ = false ∧ W.frozen? ⟨w.heap.size, 1, none⟩ = false :=
  ⟨cell_of_row W _ 0 _ _ _ h.h0, cell_of_row W _ 1 _ _ _ h.h0, frozen_of_row W _ 0 _ _ h.h0, frozen_of_row W _ 1 _ _ h.h0⟩

set_option maxRecDepth 100000 in
set_option maxHeartbeats 1000000 in
theorem rangeAround_any (g : FuncId) (eg : ∀ args w, (callFunc g args).run Tryd.prog w = .ok (.enter g args) w) (lb : Array Value) (p : Nat → Nat → Bool) (k n : Nat) (hk : k < n) (hn : n ≤ 1000000) (w : World)
    (hf : ∀ W, Below w.heap.size w W → ∀ a b : Nat, a < n → b < n → Calls Tryd.prog g (#[.int .i64 a, .int .i64 b] ++ lb) W fun e w' => e = .returned (.bool (p a b)) ∧ ∃ q, w' = W.drewN q) :
    Calls Tryd.prog 33 #[.int .i64 k, .int .i64 n, .func (.func g) #[] lb] w fun e w' => e = .returned (.agg #[.int .i64 (downTo p k : Nat), .int .i64 (upFrom p n k : Nat)]) ∧ Below w.heap.size w w' := by
  have HF := Lib.hid hf
  obtain ⟨W0, hW0⟩ : ∃ W0, W0 = (w.alloc (.cells #[.int .i64 0, .int .i64 0] 29)).alloc (.cells #[.int .i64 k, .int .i64 k] 29) := ⟨_, rfl⟩
  have HW0 := Lib.hid hW0
  have I0 : Hid (RaIn k k w W0) := by
    rw [hW0]
    refine ⟨((Below.refl _ _).alloc (Nat.le_refl _) _).alloc (by simp) _, ?_, ?_⟩
    · rw [Below.heap_alloc _ _ _ (by simp)]; exact heap_alloc_new _ _
    · have := heap_alloc_new (w.alloc (.cells #[.int .i64 0, .int .i64 0] 29)) (.cells #[.int .i64 k, .int .i64 k] 29)
      rwa [World.size_alloc] at this
  obtain ⟨D, hD⟩ : ∃ D, D = downTo p k := ⟨_, rfl⟩
  obtain ⟨U, hU⟩ : ∃ U, U = upFrom p n k := ⟨_, rfl⟩
  rw [← hD, ← hU]
  have HD := Lib.hid hD
  have HU := Lib.hid hU
  have hdk : D ≤ k := by rw [hD]; exact downTo_le _ _
  clear hf hW0 hD hU
  go_enter Tryd.func33, Tryd.ntmps33
  go_wp2_with fail
  rw [← HW0.out]
  go_loopw [] (fun wr => ∃ lo : Nat, lo ≤ k ∧ Hid (D = downTo p lo) ∧ Hid (RaIn lo k w wr)) (fun wr => cellInt wr ⟨w.heap.size + 1, 0, none⟩)
  case atStart => exact ⟨k, Nat.le_refl _, HD, I0⟩
  case round =>
    clear I0 HD
    obtain ⟨lo, hlo, HD, IK⟩ := hrel
    obtain ⟨wz, rfl⟩ : ∃ wz : World, wz = wr := ⟨_, rfl⟩
    obtain ⟨c0, c1, f0, f1⟩ := IK.out.cells
    have hcl : cellInt wz ⟨w.heap.size + 1, 0, none⟩ = lo := by unfold cellInt; rw [c0]; simp
    have hcase : (lo = 0) ∨ (∃ m, lo = m + 1 ∧ p (m + 1) m = false) ∨ (∃ m, lo = m + 1 ∧ p (m + 1) m = true) := by
      cases lo with
      | zero => exact .inl rfl
      | succ m =>
        cases hp : p (m + 1) m
        · exact .inr (.inl ⟨m, rfl, hp⟩)
        · exact .inr (.inr ⟨m, rfl, hp⟩)
    rcases hcase with hz | ⟨m, hz, hp⟩ | ⟨m, hz, hp⟩
    case' inl =>
      subst hz
      have hDl : D = 0 := HD.out
      have IY : Hid (RaIn D k w wz) := by rw [hDl]; exact IK.out
      clear HD IK hcl hDl
      go_wp2_with fail
      clear c0 c1 f0 f1
    case' inr.inl =>
      subst hz
      have hDl : Hid (D = m + 1) := HD.out.trans (by rw [downTo, hp]; rfl)
      have C := Lib.hid (HF.out wz IK.out.hb (m + 1) m (by omega) (by omega))
      rw [hp] at C
      have hm1 : ((m + 1 : Nat) : Int) - 1 = m := by omega
      clear HD hcl hp
      go_wp2_with fail
      refine C.out.mono ?_
      rintro e wy ⟨rfl, q, hq⟩
      have IY : Hid (RaIn D k w wy) := by rw [hq, hDl.out]; exact IK.out.drewN q
      clear IK hq C c0 c1 f0 f1 hm1 hDl
      obtain ⟨c0, c1, f0, f1⟩ := IY.out.cells
      go_wp2_with fail
      clear c0 c1 f0 f1
    case inr.inr =>
      subst hz
      have HD2 : Hid (D = downTo p m) := HD.out.trans (by rw [downTo, hp]; rfl)
      have C := Lib.hid (HF.out wz IK.out.hb (m + 1) m (by omega) (by omega))
      rw [hp] at C
      have hm1 : ((m + 1 : Nat) : Int) - 1 = m := by omega
      clear HD hp
      go_wp2_with fail
      refine C.out.mono ?_
      rintro e wy ⟨rfl, q, hq⟩
      have IY : Hid (RaIn (m + 1) k w wy) := by rw [hq]; exact IK.out.drewN q
      clear IK hq C c0 c1 f0 f1
      obtain ⟨c0, c1, f0, f1⟩ := IY.out.cells
      have IN := Lib.hid (IY.out.lo (l := m))
      go_wp2_with fail
      go_roundw
      case rel => exact ⟨m, by omega, HD2, IN.out⟩
      case measure =>
        have := IN.out.cells.1
        rw [hcl]
        unfold cellInt
        rw [this]
        simp
    all_goals
      go_loopw [] (fun wr => ∃ hi : Nat, k ≤ hi ∧ hi < n ∧ Hid (U = upFrom p n hi) ∧ Hid (RaIn D hi w wr)) (fun wr => n - cellInt wr ⟨w.heap.size + 1, 1, none⟩)
      case atStart => exact ⟨k, Nat.le_refl _, hk, HU, IY⟩
      case round =>
        clear IY HU
        obtain ⟨hi, hkh, hhn, HU, IK⟩ := hrel
        obtain ⟨wz, rfl⟩ : ∃ wz : World, wz = wr := ⟨_, rfl⟩
        obtain ⟨c0, c1, f0, f1⟩ := IK.out.cells
        have hcl : cellInt wz ⟨w.heap.size + 1, 1, none⟩ = hi := by unfold cellInt; rw [c1]; simp
        by_cases h1 : hi + 1 < n
        · have C := Lib.hid (HF.out wz IK.out.hb hi (hi + 1) (by omega) h1)
          cases hp : p hi (hi + 1)
          · rw [hp] at C
            have hUl : U = hi := HU.out.trans (upFrom_end p n hi (by rw [hp]; simp))
            subst hUl
            clear HU hcl hp
            go_wp2_with fail
            refine C.out.mono ?_
            rintro e wy ⟨rfl, q, hq⟩
            have IY : Hid (RaIn D U w wy) := by rw [hq]; exact IK.out.drewN q
            obtain ⟨z0, z1, y0, y1⟩ := IY.out.outer
            clear IK hq C c0 c1 f0 f1
            obtain ⟨c0, c1, f0, f1⟩ := IY.out.cells
            have HB := Lib.hid IY.out.hb
            go_wp2_with fail
            refine bodyPost_ret (v := .agg #[.int .i64 D, .int .i64 U]) (by simp [results, Tryd.results33, go_sem, z0, z1]) rfl ⟨rfl, ?_⟩
            exact (HB.out.setCell (p := ⟨w.heap.size, 0, none⟩) (Nat.le_refl _) _).setCell (p := ⟨w.heap.size, 1, none⟩) (Nat.le_refl _) _
          · rw [hp] at C
            have HU2 : Hid (U = upFrom p n (hi + 1)) := HU.out.trans (upFrom_step p n hi h1 hp)
            clear HU hp
            go_wp2_with fail
            refine C.out.mono ?_
            rintro e wy ⟨rfl, q, hq⟩
            have IY : Hid (RaIn D hi w wy) := by rw [hq]; exact IK.out.drewN q
            clear IK hq C c0 c1 f0 f1
            obtain ⟨c0, c1, f0, f1⟩ := IY.out.cells
            have IN := Lib.hid (IY.out.hi (l := hi + 1))
            go_wp2_with fail
            go_roundw
            case rel => exact ⟨hi + 1, by omega, h1, HU2, IN.out⟩
            case measure =>
              have := IN.out.cells.2.1
              rw [show ((hi + 1 : Nat) : Int) = (hi : Int) + 1 from by omega] at this
              rw [hcl]
              unfold cellInt
              rw [this]
              simp
              omega
        · have hUl : U = hi := HU.out.trans (upFrom_end p n hi (by simp; omega))
          subst hUl
          obtain ⟨z0, z1, y0, y1⟩ := IK.out.outer
          have HB := Lib.hid IK.out.hb
          clear HU hcl IK
          go_wp2_with fail
          refine bodyPost_ret (v := .agg #[.int .i64 D, .int .i64 U]) (by simp [results, Tryd.results33, go_sem, z0, z1]) rfl ⟨rfl, ?_⟩
          exact (HB.out.setCell (p := ⟨w.heap.size, 0, none⟩) (Nat.le_refl _) _).setCell (p := ⟨w.heap.size, 1, none⟩) (Nat.le_refl _) _
end Go.Proofs.YtmiaglkkjncfnaaDoor
