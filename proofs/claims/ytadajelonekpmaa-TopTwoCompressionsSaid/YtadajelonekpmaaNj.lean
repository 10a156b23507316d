import Derived.Test.YtadajelonekpmaaNf
namespace Go.Proofs.Ytadajelonekpmaa
open Go.RowKit Go.Proofs.Ytadajelonekpmaa.Flt

theorem Build.sl {xs : List Int} {w' : World} {B n : Nat} {v : Value} (hb : n ≤ 1000) (ho : w'.ownsRow B 3 1 v n (ivals xs)) : Sl w' v (ivals xs) ∧ NilOk v := ⟨Sl.of_owns ho (by omega), NilOk.of_owns ho⟩

/-- a list of a call, in a world: what it holds -/
structure Got (L : List Int) (W : World) (v : Value) : Prop where
  sl : Sl W v (ivals L)
  nil : NilOk v
theorem Got.of {L : List Int} {W : World} {v : Value} {B n : Nat} (hn : n ≤ 1000) (ho : W.ownsRow B 3 1 v n (ivals L)) : Got L W v := ⟨Sl.of_owns ho (by omega), NilOk.of_owns ho⟩
theorem Got.below {L : List Int} {W W' : World} {v : Value} (h : Got L W v) (hb : Below W.heap.size W W') : Got L W' v := ⟨h.sl.below hb (Nat.le_refl _), h.nil⟩

/-- the contracts of the calls, in one form: from any world -/
theorem copyG {v : Value} {L : List Int} {W : World} (h : Got L W v) (hn : L.length ≤ 1000) : Calls Try.prog 12 #[v] W fun e w' => ∃ v', e = .returned v' ∧ Below W.heap.size W w' ∧ Got L w' v' :=
  (CopyInts_any v L W h.sl h.nil hn).mono fun _ _ ⟨v', h1, h2, h3⟩ => ⟨v', h1, h2, Got.of hn h3⟩
theorem transG {v : Value} {L : List Int} {W : World} (h : Got L W v) (e : listErr L = 0) : Calls Try.prog 18 #[v] W fun e w' => ∃ v', e = .returned (.tuple #[v', .int .i64 0]) ∧ Below W.heap.size W w' ∧ Got (trList L (rootN L.length) 1) w' v' :=
  (Transform_ok v L W h.sl e).mono fun _ _ ⟨v', h1, h2, h3⟩ => ⟨v', h1, h2, Got.of (by rw [trList_length]; have := (listErr_ok e).1; omega) h3⟩
theorem intsG {v v' : Value} {L : List Int} {W : World} (h : Got L W v) (h' : Got L W v') : Calls Try.prog 20 #[v, v'] W fun e w' => e = .returned (.bool true) ∧ Below W.heap.size W w' :=
  (Ints_true v v' L W h.sl h'.sl).mono fun _ _ ⟨h1, q, h2⟩ => ⟨h1, by rw [h2]; exact below_drewN' _ _ _⟩


end Go.Proofs.Ytadajelonekpmaa
