import Derived.Test.YtmbolmmcfnfamaaRu
import Derived.Test.YtmbolmmcfnfamaaRt
import Derived.Shelf.Abstract
import Derived.Shelf.RegionOpen
import Derived.WalkKit
import Derived.OwnWalkIn
import Derived.TacticsInMore
import Derived.LoopNIn
import Derived.LoopIn
import Derived.Outline
namespace Go.Proofs.Ytmbolmmcfnfamaa.Orb
open Go.RowKit Lib

/-- the ticks of an orbit -/
def ticksOf (a : Int) (m : Nat) : List Int := (List.range m).map fun (i : Nat) => a + (i : Int)
theorem ticksOf_succ (a : Int) (m : Nat) : ticksOf a (m + 1) = ticksOf a m ++ [a + m] := by simp [ticksOf, List.range_succ]
theorem ticksOf_len (a : Int) (m : Nat) : (ticksOf a m).length = m := by simp [ticksOf]
theorem ticksOf_pre (a : Int) (k m : Nat) (h : k ≤ m) : ticksOf a k <+: ticksOf a m := by
  obtain ⟨d, rfl⟩ : ∃ d, m = k + d := ⟨m - k, by omega⟩
  clear h
  induction d with
  | zero => exact List.prefix_refl _
  | succ d ih => rw [← Nat.add_assoc, ticksOf_succ]; exact ih.trans (List.prefix_append _ _)
/-- how many ticks -/
def nTicks (L : List St) : Nat := (lst L - fst L + 1).toNat

theorem enters_ticks : ∀ args w, (callFunc 40 args).run Try.prog w = .ok (.enter 40 args) w := enters_of Try.func40 (by kernel_rfl) rfl

attribute [local go_sem] Oper.semAt_some

set_option maxRecDepth 100000 in
set_option maxHeartbeats 2000000 in
/-- THE ITERATOR -/
theorem ticks_iter (v : Value) (nm : ByteArray) (bend : Int) (L : List St) (h0 : 0 < L.length) (hn : L.length ≤ 1000) (hle : fst L ≤ lst L) (hlo : 0 ≤ fst L) (hhi : lst L ≤ 1000000000) (n : Nat) (h1 : 1 ≤ n) (w0 w : World) (hv : OV w0 v nm bend L) (hb : Below w0.heap.size w0 w) :
    Iter Try.prog 40 #[v] n w0.heap.size (ticksOf (fst L) (nTicks L)) w := by
  intro l J Jx W hW hJ hJx hY hJ0
  have HB := Lib.hid (hb.trans (hW.mono hb.size))
  have CL := Lib.hid (fun W' (h : Below w0.heap.size w0 W') => lastTick_any v nm bend L h0 hn W' (hv.next h))
  have hvW := hv.next HB.out
  obtain ⟨sp, cap, rfl, -, -, hS⟩ := hv.form
  obtain ⟨b, o, rfl, hT⟩ := hS h0
  have HT := Lib.hid (hT.next HB.out)
  have HJ := Lib.hid hJ
  have HY := Lib.hid hY
  have HJ0 := Lib.hid hJ0
  have HM := Lib.hid (show (nTicks L : Int) = lst L - fst L + 1 by unfold nTicks; omega)
  have hm : nTicks L ≤ 1000000001 := by unfold nTicks; omega
  clear hS hT hv hvW hJ hY hJ0 hb
  have c0 := (HT.out.next (new_below W (.cells #[.string nm, .int .i64 bend, .slice (some ⟨b, o, none⟩) L.length cap] 73)) 0 h0).1
  rw [Nat.zero_mul, Nat.add_zero] at c0
  have hf : (gt L 0).t = fst L := rfl
  rw [hf] at c0
  generalize nTicks L = m at *
  generalize fst L = f at *
  generalize lst L = la at *
  generalize L.length = ln at *
  clear hf HT
  refine callsIn_of_wp Try.func40 rfl trivial ?_
  simp only [Try.ntmps40, List.size_toArray, List.length_cons, List.length_nil, Nat.reduceAdd, Nat.reduceSub, Array.replicate_succ, Array.replicate_zero, List.push_toArray, List.append_toArray, List.nil_append, List.cons_append]
  gi_wp2_with fail
  obtain ⟨W0, hW0⟩ : ∃ W0, W0 = W.alloc (.cells #[.string nm, .int .i64 bend, .slice (some ⟨b, o, none⟩) ln cap] 73) := ⟨_, rfl⟩
  have hnew : Below W.heap.size W W0 := by rw [hW0]; exact new_below _ _
  have HK0 := Lib.hid (show W0.heap[W.heap.size]? = some (.cells #[.string nm, .int .i64 bend, .slice (some ⟨b, o, none⟩) ln cap] 73 (0, 0)) by rw [hW0]; exact heap_alloc_new _ _)
  have HB0 := Lib.hid (HB.out.trans (hnew.mono HB.out.size))
  have HJ1 := Lib.hid (HJ.out _ _ _ HJ0.out hnew)
  rw [← hW0]
  clear hW0 hnew c0 HJ0
  gi_loopw [4] (fun t wr => ∃ k : Nat, k ≤ m ∧ t = .int .i64 (f + k) ∧ Hid (J (ticksOf f k) wr) ∧ Hid (Below w0.heap.size w0 wr) ∧ Hid (wr.heap[W.heap.size]? = some (.cells #[.string nm, .int .i64 bend, .slice (some ⟨b, o, none⟩) ln cap] 73 (0, 0)))) (fun t _ => (la + 1 - intV t).toNat)
  case atStart => exact ⟨0, Nat.zero_le _, by simp, HJ1, HB0, HK0⟩
  case round =>
    obtain ⟨k, hk, rfl, HJk, HBk, HKk⟩ := hrel
    obtain ⟨wz, rfl⟩ : ∃ wz : World, wz = wr := ⟨_, rfl⟩
    clear HB0 HJ1 HK0
    obtain ⟨k0, k1, k2⟩ := cells3 HKk.out
    by_cases hlt : k < m
    · have hle2 : f + (k : Int) ≤ la := by have := HM.out; omega
      gi_wp2_with fail
      refine ⟨trivial, (callsIn_wide.2 (CL.out _ HBk.out)).mono ?_⟩
      rintro e w2 ⟨rfl, hb2⟩
      have HJ2 := Lib.hid (HJ.out _ _ _ HJk.out hb2)
      have HB2 := Lib.hid (trans' HBk.out hb2)
      have HK2 := Lib.hid (keepb hb2 HKk.out)
      obtain ⟨fn, tmps, assign, body, hy, hR⟩ := HY.out (ticksOf f k) (f + (k : Int)) w2 HJ2.out (by rw [← ticksOf_succ]; exact ticksOf_pre _ _ _ hlt) (lt_of_block HK2.out)
      have HR := Lib.hid hR
      clear hR hb2 HJk HBk HKk k0 k1 k2
      gi_wp2_with fail
      refine HR.out.mono ?_
      rintro e w3 (⟨rfl, hJ3, hk3⟩ | ⟨rfl, hx3⟩)
      · have HJ3 := Lib.hid hJ3
        have HB3 := Lib.hid (HB2.out.trans hk3.below)
        have HK3 := Lib.hid ((hk3.mid (lt_of_block HK2.out)).trans HK2.out)
        clear hJ3 hk3 HJ2 HB2 HK2
        have hlt2 : f + (k : Int) ≤ 1000000000 := by omega
        gi_wp2_with fail
        go_roundw
        case rel => exact ⟨k + 1, by omega, by simp; omega, Lib.hid (by rw [ticksOf_succ]; exact HJ3.out), HB3, HK3⟩
        case measure => simp [intV]; omega
      · have HX3 := Lib.hid hx3
        clear hx3
        gi_wp2_with fail
        refine bodyPost_ret (results_none rfl _ _ _) rfl ?_
        exact ⟨⟨_, rfl⟩, .inr ⟨_, ticksOf_pre _ _ _ hlt, by rw [ticksOf_succ]; exact HX3.out⟩⟩
    · have hkm : k = m := by omega
      have HJm := Lib.hid (show J (ticksOf f m) wz by rw [← hkm]; exact HJk.out)
      have hgt : ¬ f + (k : Int) ≤ la := by have := HM.out; omega
      clear hkm HJk
      gi_wp2_with fail
      refine ⟨trivial, (callsIn_wide.2 (CL.out _ HBk.out)).mono ?_⟩
      rintro e w2 ⟨rfl, hb2⟩
      have HJ2 := Lib.hid (HJ.out _ _ _ HJm.out hb2)
      clear hb2 HJm
      gi_wp2_with fail
      go_end0
      exact ⟨⟨_, rfl⟩, .inl HJ2.out⟩
end Go.Proofs.Ytmbolmmcfnfamaa.Orb
