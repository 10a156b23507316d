import Derived.Test.YtmiaglkkjncfnaaDoorWa
namespace Go.Proofs.YtmiaglkkjncfnaaDoor
open Go.RowKit Go.Proofs.YtmiaglkkjncfnaaDoor.Flt

structure FirstInv (w : World) (B j i : Nat) (wr : World) : Prop where
  h6 : wr.heap[B]? = some (.cells #[.int .i64 (dAt (10 - j) i).1, .int .i64 (dAt (10 - j) i).2] 59 (0, 0))
  h7 : wr.heap[B + 1]? = some (.cells #[.int .i64 (dAt (10 - j) (i + 1)).1, .int .i64 (dAt (10 - j) (i + 1)).2] 59 (0, 0))
  hb : Below w.heap.size w wr
  hlt : w.heap.size ≤ B

end Go.Proofs.YtmiaglkkjncfnaaDoor

namespace Go.Proofs.YtmiaglkkjncfnaaDoor
open Go.RowKit Go.Proofs.YtmiaglkkjncfnaaDoor.Flt

theorem basePart_any (x y : Nat) (a b : Int) (ha : wv Ieee.double x = some a) (hb : wv Ieee.double y = some b) (hx : x < 2 ^ 64) (hy : y < 2 ^ 64) (la : a.natAbs ≤ 2 ^ 53) (lb : b.natAbs ≤ 2 ^ 53) (w : World) :
    Calls Tryd.prog 64 #[.complex .f64 x y] w fun e w' => e = .returned (.tuple #[.int .i64 a, .int .i64 b]) ∧ w = w' := by
  have ra := wv_rep good_double (x := x) hx ha la
  have rb := wv_rep good_double (x := y) hy hb lb
  have c1 := fun w => run_convert_float_int (P := Tryd.prog) w 86 3 .f64 .i64 x a (by kernel_rfl) (by kernel_rfl) (floatToInt_of (toInt_rep good_double ra la .zero) (by omega) (by omega))
  have c2 := fun w => run_convert_float_int (P := Tryd.prog) w 86 3 .f64 .i64 y b (by kernel_rfl) (by kernel_rfl) (floatToInt_of (toInt_rep good_double rb lb .zero) (by omega) (by omega))
  clear ra rb ha hb hx hy la lb
  go_enter Tryd.func64, Tryd.ntmps64
  go_wp2_with fail
  go_ret2
  exact ⟨rfl, rfl⟩

end Go.Proofs.YtmiaglkkjncfnaaDoor
