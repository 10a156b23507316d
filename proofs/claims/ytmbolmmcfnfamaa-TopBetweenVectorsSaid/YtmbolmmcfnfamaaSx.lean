import Derived.Test.YtmbolmmcfnfamaaSw
import Derived.Test.YtmbolmmcfnfamaaRows
import Derived.WalkKit
import Derived.ProofKit
import Derived.OpenShut
import Derived.Deep.DeepHandedRow
import Derived.Deep.Slices
import Derived.Lib.SmallJoins
import Derived.Stop.LaidErr
import Derived.Carry
import Derived.ChangeSlices
namespace Go.Proofs.Ytmbolmmcfnfamaa.Orb
open Go.ChangeShapes Go.WideShapes Go.ChangeAt Go.RowKit

/-! Pieces that the rows of a plain seat share, and the openers of an orbit and a place. -/
theorem own_knob : ownKnob Try.prog.godebug = none := by kernel_rfl
theorem laid_out : laidOutB Try.prog = true := by kernel_rfl

theorem trodAll_stays {H : Type} {enc : TypeId × Value → H} {W W' : World} {sp : Nat → Bool} (hb : Below W.heap.size W W') :
    ∀ (ts : List TypeId) (vs : List Value) (ds : List (DataW H)) (ps : List MemPlace), (∀ t ∈ ts, Try.prog.readableRec t = true ∧ t < Try.prog.types.size) →
      DataW.TrodAll enc Try.prog W 0 (fun _ => true) true ts vs ds ps → (∀ x ∈ ps, x.block < W.heap.size) → (∀ x ∈ ps, sp x.block = true) → DataW.TrodAll enc Try.prog W' 0 sp true ts vs ds ps
  | [], [], [], _, _, h, _, _ => h
  | [], [], _ :: _, _, _, h, _, _ => h.elim
  | [], _ :: _, _, _, _, h, _, _ => h.elim
  | _ :: _, [], _, _, _, h, _, _ => h.elim
  | _ :: _, _ :: _, [], _, _, h, _, _ => h.elim
  | t :: ts, v :: vs, d :: ds, ps, hty, h, hlt, hsp => by
    obtain ⟨p, q, h1, h2, rfl⟩ := h
    obtain ⟨r1, r2⟩ := hty t (List.mem_cons_self ..)
    exact ⟨p, q, WideElems.Trod_stays laid_out r1 r2 h1 (fun x hx => hb.same (hlt x (List.mem_append.2 (.inl hx)))) (fun x hx => hsp x (List.mem_append.2 (.inl hx))),
      trodAll_stays hb ts vs ds q (fun t ht => hty t (List.mem_cons_of_mem _ ht)) h2 (fun x hx => hlt x (List.mem_append.2 (.inr hx))) (fun x hx => hsp x (List.mem_append.2 (.inr hx))), rfl⟩

set_option maxRecDepth 100000 in
/-- what a law's row asks of a call that answers true and turns nothing old -/
theorem law_post {H : Type} {enc : TypeId × Value → H} {f : Func} {s : ChangeSpec} {fresh handsOn again : Bool} {W W' : World} {args : Array Value} {ds gs : List (DataW H)} {before : List MemPlace}
    (hty : ∀ t ∈ f.params.toList, Try.prog.readableRec t = true ∧ t < Try.prog.types.size) (hv : s.vars = []) (hres : f.resultTypes = #[4])
    (hfn : (s.fn H (ds ++ gs)).results = [.lit (.bool true)] ∧ (s.fn H (ds ++ gs)).args = ds ∧ (s.fn H (ds ++ gs)).vars = [])
    (hW : DataW.Whole enc Try.prog f.params.toList s.vars false W args.toList ds gs before) (hb : Below W.heap.size W W') :
    s.post enc Try.prog f false fresh handsOn again W args (.bool true) W' := by
  have hlt : ∀ p ∈ before, p.block < W.heap.size := fun p hp => hW.lt p hp
  have hW2 := hW
  obtain ⟨p, q, hA, hV, hpq, hz, -⟩ := hW
  rw [hv] at hV
  obtain ⟨hg, hq⟩ := trodVars_none hV
  obtain rfl : before = p := by rw [hpq, hq]; simp
  have hargs : ∀ sp : Nat → Bool, (∀ x ∈ before, sp x.block = true) → DataW.TrodAll enc Try.prog W' 0 sp true f.params.toList args.toList (s.fn H (ds ++ gs)).args before := by
    intro sp hsp
    rw [hfn.2.1]
    exact trodAll_stays hb _ _ _ _ hty hA hlt hsp
  have hr : ∀ (b : Nat) (sp : Nat → Bool) (hd : Bool), DataW.TrodAll enc Try.prog W' b sp hd f.resultTypes.toList ((Value.bool true).resultList f.resultTypes.size) (s.fn H (ds ++ gs)).results [] := by
    intro b sp hd
    rw [hfn.1, hres]
    exact trodAll_cons_mk (shut_bool Try.underlying4 _) trodAll_mk0
  have hvars : ∀ sp : Nat → Bool, DataW.TrodVars enc Try.prog W' sp s.vars (s.fn H (ds ++ gs)).vars [] := by
    intro sp
    rw [hv, hfn.2.2]
    rfl
  refine ⟨ds, gs, before, [], before, [], hW2, hr _ _ _, hargs _ (fun x hx => by simpa using hlt x hx), hvars _, World.keptBut_mono (fun x hx => ⟨hx, .inr (.inl hx)⟩) (hb.frame (· ∈ before)), fun _ => ?_⟩
  refine ⟨ok_one hres rfl (okWide_bool_mk Try.underlying4 _), _, _, [] ++ before, ⟨[] ++ before, [], trodAll_append (hargs _ (fun _ _ => rfl)) (hr _ _ _), hvars _, by simp, ?_, fun h => by cases h⟩, ?_⟩
  · intro b off hp
    have hin : MemPlace.cell b off ∈ before := by simpa using hp
    rw [hb.frozen (hlt _ hin)]
    exact hz b off (by rw [hpq, hq]; simpa using hin)
  · intro x hx _
    simpa using hx

theorem tys_ok' {ts : List TypeId} (h : (ts.all fun t => Try.prog.readableRec t && decide (t < Try.prog.types.size)) = true) : ∀ t ∈ ts, Try.prog.readableRec t = true ∧ t < Try.prog.types.size := by
  intro t ht
  have := List.all_eq_true.1 h t ht
  rw [Bool.and_eq_true, decide_eq_true_eq] at this
  exact this
theorem wf_i64 {n : Int} (h : (Lit.int .i64 n).wf = true) : -9223372036854775808 ≤ n ∧ n ≤ 9223372036854775807 := by
  have h2 := h
  simp only [Lit.wf] at h2
  rw [Bool.and_eq_true, decide_eq_true_eq, decide_eq_true_eq] at h2
  exact h2

section
variable {H : Type} {enc : TypeId × Value → H} {W : World} {base base' : Nat} {sp : Nat → Bool} {held : Bool} {n : Nat} {cs : List Value} {y : DataW H × List MemPlace}
theorem cells_i : Try.prog.cellsOf 3 = 1 := by kernel_rfl
theorem cells_p : Try.prog.cellsOf 43 = 3 := by kernel_rfl
theorem cells_s : Try.prog.cellsOf 45 = 5 := by kernel_rfl

theorem place_of (h : DataW.trod enc Try.prog W base sp held n 43 cs = some y) : ∃ x1 x2 x3 : Int, cs = [.int .i64 x1, .int .i64 x2, .int .i64 x3] := by
  obtain ⟨y0, y1, y2, n2, -, hl, g0, g1, g2⟩ := Deep.trod_struct3 Try.underlying43 h
  rw [cells_p] at hl
  simp only [cells_i] at g0 g1 g2
  match cs, hl with
  | [c0, c1, c2], _ =>
    obtain ⟨x1, e1, -, -⟩ := DataW.trod_int Try.underlying3 g0
    obtain ⟨x2, e2, -, -⟩ := DataW.trod_int Try.underlying3 g1
    obtain ⟨x3, e3, -, -⟩ := DataW.trod_int Try.underlying3 g2
    simp at e1 e2 e3
    exact ⟨x1, x2, x3, by rw [e1, e2, e3]⟩

theorem state_of (h : DataW.trod enc Try.prog W base sp held n 45 cs = some y) : ∃ s : St, cs = [.int .i64 s.t, .int .i64 s.x, .int .i64 s.y, .int .i64 s.z, .int .i64 s.e] ∧ s.t ≤ 9223372036854775807 := by
  obtain ⟨y0, y1, y2, n2, -, hl, g0, g1, g2⟩ := Deep.trod_struct3 Try.underlying45 h
  rw [cells_s] at hl
  simp only [cells_i, cells_p] at g0 g1 g2
  match cs, hl with
  | [c0, c1, c2, c3, c4], _ =>
    obtain ⟨t, e1, -, w1⟩ := DataW.trod_int Try.underlying3 g0
    obtain ⟨x1, x2, x3, e2⟩ := place_of g1
    obtain ⟨u, e3, -, -⟩ := DataW.trod_int Try.underlying3 g2
    simp at e1 e2 e3
    exact ⟨⟨t, x1, x2, x3, u⟩, by rw [e1, e2.1, e2.2.1, e2.2.2, e3], (wf_i64 w1).2⟩

instance : Inhabited St := ⟨zst⟩

set_option maxRecDepth 100000 in
/-- an orbit that a call is handed -/
theorem got_orbit {v : Value} {d : DataW H} {p : List MemPlace} (hval : Value.okWide Try.prog W .any base' 24 v) (h : DataW.Trod enc Try.prog W base sp held 24 v d p) :
    ∃ nm bend L, OV W v nm bend L ∧ ∀ k, (gt L k).t ≤ 9223372036854775807 := by
  obtain ⟨v0, v1, v2, y0, y1, y2, n, rfl, rfl, rfl, h0, h1, h2⟩ := Joins.open_agg3 Try.underlying24 (by kernel_rfl) (by kernel_rfl) hval h
  obtain ⟨nm, hn, -, -⟩ := DataW.trod_string Try.underlying9 h0
  obtain rfl : v0 = .string nm := by simpa using hn
  obtain ⟨bend, hbn, -, -⟩ := DataW.trod_int Try.underlying3 h1
  obtain rfl : v1 = .int .i64 bend := by simpa using hbn
  rcases Deep.open_slice Try.underlying22 h2 with ⟨hc, -⟩ | ⟨a, len, cap, m, n', D, Pl, hc, -, hl, hm, hmm, -, hx⟩
  · obtain rfl : v2 = .slice none 0 0 := by simpa using hc
    refine ⟨nm, bend, [], ⟨⟨none, 0, rfl, Nat.zero_le _, by decide, fun h => absurd h (by decide)⟩, fun a c n cap e => ?_⟩, fun k => (by decide : (0 : Int) ≤ 9223372036854775807)⟩
    simp at e
    omega
  · obtain rfl : v2 = .slice (some a) len cap := by simpa using hc
    rw [cells_s] at hx
    have hlm : len ≤ m := by rw [hmm]; split <;> omega
    obtain ⟨S, hS⟩ := Deep.choose_lt (α := St) (n := len) (p := fun i s => (∀ j u, ([.int .i64 s.t, .int .i64 s.x, .int .i64 s.y, .int .i64 s.z, .int .i64 s.e] : List Value)[j]? = some u → W.cell? (a.add (i * 5 + j)) = some u) ∧ s.t ≤ 9223372036854775807) (fun i hi => by
      obtain ⟨cs', g1, g2⟩ := hx i (by omega)
      obtain ⟨s, rfl, hs⟩ := state_of g2
      obtain ⟨-, -, g3⟩ := World.cells?_some g1
      refine ⟨s, fun j u hu => ?_, hs⟩
      have hj : j < 5 := by
        rcases Nat.lt_or_ge j 5 with h | h
        · exact h
        · rw [List.getElem?_eq_none (by simpa using h)] at hu; cases hu
      rw [← Addr.add_add, g3 j hj, hu])
    have hg : ∀ k, k < len → gt ((List.range len).map S) k = S k := fun k hk => by
      unfold gt
      rw [List.getD_eq_getElem?_getD, List.getElem?_map, List.getElem?_range hk]; rfl
    have hm2 : cap ≤ 9223372036854775807 := hm
    refine ⟨nm, bend, (List.range len).map S, ⟨⟨some a, cap, by simp, by simpa using hl, hm2, fun h0 => ?_⟩, fun a c n cap e => by simp at e⟩, fun k => ?_⟩
    · have h0 : 0 < len := by simpa using h0
      obtain ⟨b, off, spot⟩ := a
      have hspot : spot = none := by simpa [Addr.add] using World.cell?_spot ((hS 0 h0).1 0 _ rfl)
      subst hspot
      refine ⟨b, off, rfl, fun k hk => ?_⟩
      have hk : k < len := by simpa using hk
      rw [hg k hk]
      have h := (hS k hk).1
      simp only [add_none] at h
      exact ⟨h 0 _ rfl, h 1 _ rfl, h 2 _ rfl, h 3 _ rfl, h 4 _ rfl⟩
    · rcases Nat.lt_or_ge k len with hk | hk
      · rw [hg k hk]; exact (hS k hk).2
      · unfold gt
        rw [List.getD_eq_getElem?_getD, List.getElem?_eq_none (by simpa using hk)]
        exact (by decide : (0 : Int) ≤ 9223372036854775807)

set_option maxRecDepth 100000 in
theorem got_place {v : Value} {d : DataW H} {p : List MemPlace} (hval : Value.okWide Try.prog W .any base' 43 v) (h : DataW.Trod enc Try.prog W base sp held 43 v d p) :
    ∃ x y z : Int, v = .agg #[.int .i64 x, .int .i64 y, .int .i64 z] := by
  obtain ⟨v0, v1, v2, y0, y1, y2, n, rfl, rfl, rfl, h0, h1, h2⟩ := Joins.open_agg3 Try.underlying43 (by kernel_rfl) (by kernel_rfl) hval h
  obtain ⟨x1, e1, -, -⟩ := DataW.trod_int Try.underlying3 h0
  obtain ⟨x2, e2, -, -⟩ := DataW.trod_int Try.underlying3 h1
  obtain ⟨x3, e3, -, -⟩ := DataW.trod_int Try.underlying3 h2
  simp at e1 e2 e3
  exact ⟨x1, x2, x3, by rw [e1, e2, e3]⟩

set_option maxRecDepth 100000 in
theorem got_int {v : Value} {d : DataW H} {p : List MemPlace} (hval : Value.okWide Try.prog W .any base' 3 v) (h : DataW.Trod enc Try.prog W base sp held 3 v d p) : ∃ x : Int, v = .int .i64 x := by
  obtain ⟨x, rfl, -⟩ := open_int Try.underlying3 hval h
  exact ⟨x, rfl⟩
end
end Go.Proofs.Ytmbolmmcfnfamaa.Orb
