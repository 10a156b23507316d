import Derived.Test.YtmiaglkkjncfnaaDoorNf
namespace Go.Proofs.YtmiaglkkjncfnaaDoor
open Go.RowKit Go.Proofs.YtmiaglkkjncfnaaDoor.Flt

theorem Build.sl {xs : List Int} {w' : World} {B n : Nat} {v : Value} (hb : n ≤ 1000) (ho : w'.ownsRow B 3 1 v n (ivals xs)) : Sl w' v (ivals xs) ∧ NilOk v := ⟨Sl.of_owns ho (by omega), NilOk.of_owns ho⟩

/-- a list of a call, in a world: what it holds -/
structure Got (L : List Int) (W : World) (v : Value) : Prop where
  sl : Sl W v (ivals L)
  nil : NilOk v
theorem Got.of {L : List Int} {W : World} {v : Value} {B n : Nat} (hn : n ≤ 1000) (ho : W.ownsRow B 3 1 v n (ivals L)) : Got L W v := ⟨Sl.of_owns ho (by omega), NilOk.of_owns ho⟩
theorem Got.below {L : List Int} {W W' : World} {v : Value} (h : Got L W v) (hb : Below W.heap.size W W') : Got L W' v := ⟨h.sl.below hb (Nat.le_refl _), h.nil⟩

theorem intsG {v v' : Value} {L : List Int} {W : World} (h : Got L W v) (h' : Got L W v') : Calls Tryd.prog 29 #[v, v'] W fun e w' => e = .returned (.bool true) ∧ Below W.heap.size W w' :=
  (Ints_true v v' L W h.sl h'.sl).mono fun _ _ ⟨h1, q, h2⟩ => ⟨h1, by rw [h2]; exact below_drewN' _ _ _⟩


end Go.Proofs.YtmiaglkkjncfnaaDoor
