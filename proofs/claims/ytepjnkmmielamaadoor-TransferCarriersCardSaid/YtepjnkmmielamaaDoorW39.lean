/-
  lacquerlaw01.TransferCarriers answers true for every carrier and rate: the program's error of a carrier and its samples of a turn are the reference's. Conditions: none of its own; the package's table of predictors is listed and tied to the program's text by the given tie.
-/
import Derived.Test.YtepjnkmmielamaaDoorW26
import Derived.Test.YtepjnkmmielamaaDoorW38
import Derived.Test.YtepjnkmmielamaaDoorCards
import Derived.SevenTiedAt
import Derived.ShutString
namespace Go.Proofs.YtepjnkmmielamaaDoor.carriers
open Go.ChangeShapes Go.WideShapes Go.ChangeAt Go.RowKit

theorem i64_bd {a : Int} (h : (Lit.int .i64 a).wf = true) : -9223372036854775808 ≤ a ∧ a ≤ 9223372036854775807 := by
  have := bounds_i64 h
  omega
theorem len5 {α : Type} (l : List α) (h : l.length = 5) : ∃ a b c d e, l = [a, b, c, d, e] := by
  obtain ⟨a, l0, rfl, h0⟩ := len_cons l 4 h
  obtain ⟨b, c, d, e, rfl⟩ := len4 l0 h0
  exact ⟨a, b, c, d, e, rfl⟩
theorem len2 {α : Type} (l : List α) (h : l.length = 2) : ∃ a b, l = [a, b] := by
  obtain ⟨a, l0, rfl, h0⟩ := len_cons l 1 h
  obtain ⟨b, l1, rfl, h1⟩ := len_cons l0 0 h0
  obtain rfl := List.eq_nil_of_length_eq_zero h1
  exact ⟨a, b, rfl⟩

set_option maxRecDepth 100000 in
/-- A carrier as it comes in: a string and four integers. -/
theorem open5 {H : Type} {enc : TypeId × Value → H} {w : World} {base : Nat} {spare : Nat → Bool} {held : Bool} {r : Reach} {b0 : Nat} {v : Value} {d : DataW H} {p : List MemPlace}
    (hv : Value.okWide Tryd.prog w r b0 25 v) (h : DataW.Trod enc Tryd.prog w base spare held 25 v d p) :
    ∃ (nm : ByteArray) (k sd n e : Int), v = .agg #[.string nm, .int .i64 k, .int .i64 sd, .int .i64 n, .int .i64 e] ∧ (-9223372036854775808 ≤ n ∧ n ≤ 9223372036854775807) ∧ e ≤ 9223372036854775807 := by
  obtain ⟨cs, rfl, hsz⟩ := okWide_struct Tryd.underlying25 hv
  obtain ⟨fuel, hf⟩ := h
  obtain ⟨xs, n, _, _, hl, hxl, hg⟩ := DataW.trod_struct Tryd.underlying25 hf
  have h5 : Tryd.prog.cellsOf 25 = 5 := by kernel_rfl
  have h2 : Tryd.prog.cellsOf 23 = 2 := by kernel_rfl
  have hS : Tryd.prog.cellsOf 9 = 1 := by kernel_rfl
  obtain ⟨l⟩ := cs
  have hl5 : l.length = 5 := by rw [← h5]; simpa using hsz
  obtain ⟨c0, c1, c2, c3, c4, rfl⟩ := len5 l hl5
  obtain ⟨y0, y1, y2, y3, rfl⟩ := len4 xs hxl
  have g0 := hg 0 _ rfl
  have g1 := hg 1 _ rfl
  have g2 := hg 2 _ rfl
  have g3 := hg 3 _ rfl
  simp [Value.cells, cellsInt, h2, hS] at g0 g1 g2 g3
  obtain ⟨s0, e0, _⟩ := DataW.trod_string Tryd.underlying9 g0
  obtain ⟨z1, e1, _⟩ := DataW.trod_int Tryd.underlying3 g1
  obtain ⟨z2, e2, _⟩ := DataW.trod_int Tryd.underlying3 g2
  obtain ⟨us, m, _, _, _, hul, hel⟩ := DataW.trod_struct Tryd.underlying23 g3
  obtain ⟨u0, u1, rfl⟩ := len2 us hul
  have k0 := hel 0 _ rfl
  have k1 := hel 1 _ rfl
  simp [cellsInt] at k0 k1
  obtain ⟨z3, e3, _, w3⟩ := DataW.trod_int Tryd.underlying3 k0
  obtain ⟨z4, e4, _, w4⟩ := DataW.trod_int Tryd.underlying3 k1
  simp at e0 e1 e2 e3 e4
  exact ⟨s0, z1, z2, z3, z4, by rw [e0, e1, e2, e3, e4], i64_bd w3, (i64_bd w4).2⟩

set_option maxRecDepth 100000 in
theorem lifted (os : Os) (started : os.Started) (H : Type) (enc : TypeId × Value → H) :
    ReturnsInHanded {} Tryd.checked os 3 .any (fun w args => (Rows.transferCarriersSpec.pre enc Tryd.prog Tryd.f3 [] false w args ∧ laidMetH Tryd.prog laidP w) ∧ sizedMet enc Tryd.prog Tryd.f3 (OpenSpec.ofChange Rows.transferCarriersSpec) false w args)
      (Rows.transferCarriersSpec.post enc Tryd.prog Tryd.f3 false true false false) := by
  refine returnsInHanded_of_change_and (C := Tryd.checked) (X := fun w _ => laidMetH Tryd.prog laidP w) (fun _ _ _ hh h => h.of_heap hh) own started (by kernel_rfl) Tryd.func3
    (ChangeSpec.witness_shaped (enc := enc) (C := Tryd.checked) (os := os) (X := fun w _ => laidMetH Tryd.prog laidP w) false (World.doorLaid Tryd.prog 400 os) #[.agg #[.string ByteArray.empty, .int .i64 0, .int .i64 0, .int .i64 0, .int .i64 0], .int .i64 0] 8 rfl (World.shaped_of_RefB (by kernel_rfl) (by kernel_rfl)) (by kernel_rfl) (by kernel_rfl) (by kernel_rfl) (door_met os _)) ?_
  intro W base args ds gs before hval0 hW _ _ hL _
  have hval : ∀ (j : Nat) t v, Tryd.f3.params[j]? = some t → args[j]? = some v → Value.okWide Tryd.prog W .any base t v := hval0
  have hW' := hW
  obtain ⟨p, q, hA0, hV, rfl, hfz, hnd⟩ := hW
  have hA : DataW.TrodAll enc Tryd.prog W 0 (fun _ => true) true Tryd.f3.params.toList args.toList ds p := hA0
  rw [Tryd.params3] at hA hval
  obtain ⟨v0, vs0, d0, ds0, p0, q0, hargs, rfl, rfl, h0, r0⟩ := trodAll_cons hA
  obtain ⟨v1, vs1, d1, ds1, p1, q1, rfl, rfl, rfl, h1, r1⟩ := trodAll_cons r0
  obtain ⟨rfl, rfl, rfl⟩ := trodAll_nil r1
  obtain rfl : args = #[v0, v1] := by cases args; simp_all
  obtain ⟨rfl, rfl⟩ := trodVars_none hV
  have lt0 : ∀ x ∈ p0, x.block < W.heap.size := by obtain ⟨m, hm⟩ := h0; exact DataW.trod_lt m _ _ _ hm
  obtain ⟨nm, k, sd, n, e5, rfl, hb, he5⟩ := open5 (hval 0 25 v0 rfl rfl) h0
  obtain ⟨a1, rfl, rfl, rfl, w1⟩ := open_int Tryd.underlying3 (hval 1 3 v1 rfl rfl) h1
  have hl := of_laid hL
  clear hA0 hval0
  refine (carriers_walk nm k sd n e5 a1 W hl hb.1 hb.2 he5).mono fun e W' ⟨he, bel⟩ => ?_
  subst he
  exact ⟨_, rfl, _, _, _, [], _, [], hW', trodAll_mk1 (shut_bool Tryd.underlying4 _), (trodAll_cons_mk (Below.trod laidOut (by kernel_rfl) (of_decide_eq_true (by kernel_rfl)) h0 bel lt0) (trodAll_cons_mk (shut_int Tryd.underlying3 w1) trodAll_mk0)), rfl, bel.frame _, fun h => by cases h⟩

theorem row_holds : Rows.TransferCarriersSaid :=
  OpenClaim.holds_of_wide 3 Tryd.f3 rfl rfl rfl rfl rfl rfl rfl ⟨rfl, rfl, rfl, rfl, rfl⟩ rfl rfl rfl rfl rfl (by kernel_rfl) Tryd.func3 (by kernel_rfl)
    (of_decide_eq_true (by kernel_rfl)) (by unfold Func.isWrapper; first | (rw [if_pos (by decide +kernel)]; kernel_rfl) | (rw [if_neg (by decide +kernel)]; exact ⟨rfl, rfl⟩))
    (fun os started H enc _ => lifted os started H enc)

theorem card_holds : Rows.TransferCarriersCardSaid :=
  Claim7.holds_tied_plain_at .later [] [.data] true (true, "6bfb89a0d1e7406e6562137d8686a9a2d4d3eab6295133ef0dc57be2bbb5ec3a") false
    row_holds (fun _ h => by cases h) (by kernel_rfl) (fun _ h => by cases h) transferCarriers_row_tie rfl ⟨rfl, rfl⟩ (by kernel_rfl) rfl
    (fun f fn hf hfn => by
      obtain rfl : f = 3 := Option.some.inj ((show Tryd.prog.funcNamed "lacquer/lacquerlaw01.TransferCarriers" = some 3 by kernel_rfl).symm.trans hf) |>.symm
      obtain rfl : fn = Tryd.f3 := (Option.some.inj (Tryd.func3.symm.trans hfn)).symm
      exact ⟨by kernel_rfl, fun j t ht => by
        rw [Tryd.params3] at ht
        have hm : t ∈ [25, 3] := by simpa using Array.mem_of_getElem? ht
        have hall : ([25, 3].all fun u => !Tryd.prog.wantsStandIn u) = true := by kernel_rfl
        exact (show Tryd.prog.wantsStandIn t = false by simpa using List.all_eq_true.1 hall t hm)⟩)
    (by kernel_rfl)
#print axioms card_holds
end Go.Proofs.YtepjnkmmielamaaDoor.carriers
