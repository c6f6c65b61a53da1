/-
  lacquerlaw01.TransferGroups answers true for every group: which groups are valid, and their restored data, are as specified, or the errors. Conditions: none of its own; the package's table of predictors is listed and tied to the program's text by the given tie.
-/
import Derived.Test.YtjjflbnopphciabDoorTgab
import Derived.Test.YtjjflbnopphciabDoorTgac
import Derived.Test.YtjjflbnopphciabDoorTgak
import Derived.Test.YtjjflbnopphciabDoorCards
import Derived.SevenTiedAt
import Derived.ShutString
namespace Go.Proofs.YtjjflbnopphciabDoor.groups
open Go.ChangeShapes Go.WideShapes Go.ChangeAt Go.RowKit

theorem cellsDs : Tryd.prog.cellsOf 22 = 1 := by kernel_rfl
theorem cellsIs : Tryd.prog.cellsOf 31 = 1 := by kernel_rfl
set_option maxRecDepth 100000 in
theorem open_datasf {H : Type} {enc : TypeId × Value → H} {w : World} {base : Nat} {spare : Nat → Bool} {held : Bool} {fuel : Nat} {v : Value} {x : DataW H × List MemPlace}
    (hf : DataW.trod enc Tryd.prog w base spare held fuel 22 [v] = some x) : ∃ A n c ds, v = .slice A n c ∧ RdD w A n ds ∧ (A = none → n = 0 ∧ c = 0) := by
  have h8 : Tryd.prog.cellsOf 34 = 8 := by kernel_rfl
  rcases Deep.open_slice Tryd.underlying22 hf with ⟨hcs, _⟩ | ⟨a, len, cap, m, k, D, Pl, hcs, _, hl, hm, hz, _, hx⟩
  · injection hcs with hcs
    exact ⟨none, 0, 0, [], hcs, ⟨rfl, fun i hi => by simp at hi, fun h => absurd h (by omega)⟩, fun _ => ⟨rfl, rfl⟩⟩
  · injection hcs with hcs
    have hlen : len ≤ m := by rw [hz]; split <;> omega
    obtain ⟨f, hf⟩ := Deep.choose_lt (α := List Int) (n := len) (p := fun i q => q.length = 8 ∧ ∀ j, j < 8 → w.cell? ((a.add (i * 8)).add j) = some (.int .i64 (q.getD j 0))) (fun i hi => by
      obtain ⟨cs, h1, h2⟩ := hx i (by omega)
      obtain ⟨l, hl8, rfl⟩ := arr8_cells h2
      rw [h8] at h1
      obtain ⟨_, _, h3⟩ := World.cells?_some h1
      refine ⟨l, hl8, fun j hj => ?_⟩
      have h4 := h3 j (by simpa [hl8] using hj)
      rw [h4]
      simp [List.getD_eq_getElem?_getD, List.getElem?_eq_getElem (show j < l.length by omega)])
    have e : ∀ j, j < len → ((List.range len).map f).getD j [] = f j := fun j hj => by simp [List.getD_eq_getElem?_getD, hj]
    refine ⟨some a, len, cap, (List.range len).map f, hcs, ⟨by simp, fun i hi => ?_, fun hn => ⟨a, rfl, ?_, fun i j hi hj => ?_⟩⟩, fun h => by cases h⟩
    · have hi' : i < len := by simpa using hi
      rw [e i hi']; exact (hf i hi').1
    · have := block_lt_of_cell ((hf 0 (by omega)).2 0 (by omega))
      rwa [addBlock, addBlock] at this
    · unfold dc
      rw [e i hi]
      exact (hf i hi).2 j hj
set_option maxRecDepth 100000 in
theorem open_rdf {H : Type} {enc : TypeId × Value → H} {w : World} {base : Nat} {spare : Nat → Bool} {held : Bool} {fuel : Nat} {v : Value} {x : DataW H × List MemPlace}
    (hf : DataW.trod enc Tryd.prog w base spare held fuel 31 [v] = some x) : ∃ A n c l, v = .slice A n c ∧ RdI w A n l ∧ (A = none → n = 0 ∧ c = 0) := by
  rcases open_ints intsUnder underInt cellsInt hf with ⟨hcs, _⟩ | ⟨a, len, cap, zs, hcs, _, hl, hm, hz, _, hcell, _⟩
  · injection hcs with hcs
    exact ⟨none, 0, 0, [], hcs, ⟨rfl, fun h => absurd h (by omega)⟩, fun _ => ⟨rfl, rfl⟩⟩
  · injection hcs with hcs
    have hlen : len ≤ zs.length := by rw [hz]; split <;> omega
    refine ⟨some a, len, cap, zs.take len, hcs, ⟨by rw [List.length_take]; omega, fun hn => ⟨a, rfl, ?_, fun j hj => ?_⟩⟩, fun h => by cases h⟩
    · have := block_lt_of_cell (hcell 0 (by omega))
      rwa [addBlock] at this
    · rw [hcell j (by omega)]
      simp [List.getD_eq_getElem?_getD, List.getElem?_take, hj]
set_option maxRecDepth 100000 in
/-- A group as it comes in. -/
theorem open_group {H : Type} {enc : TypeId × Value → H} {w : World} {base : Nat} {spare : Nat → Bool} {held : Bool} {r : Reach} {b0 : Nat} {v : Value} {d : DataW H} {p : List MemPlace}
    (hv : Value.okWide Tryd.prog w r b0 33 v) (h : DataW.Trod enc Tryd.prog w base spare held 33 v d p) :
    ∃ (A B C D : Option Addr) (n m l r0 ca cb cc cd : Nat) (ds ps : List (List Int)) (ld lp : List Int), v = .agg #[.slice A n ca, .slice B m cb, .slice C l cc, .slice D r0 cd] ∧ RdD w A n ds ∧ RdD w B m ps ∧ RdI w C l ld ∧ RdI w D r0 lp ∧ (A = none → n = 0 ∧ ca = 0) ∧ (B = none → m = 0 ∧ cb = 0) ∧ (C = none → l = 0 ∧ cc = 0) ∧ (D = none → r0 = 0 ∧ cd = 0) := by
  obtain ⟨cs, rfl, hsz⟩ := okWide_struct Tryd.underlying33 hv
  obtain ⟨fuel, hf⟩ := h
  obtain ⟨xs, n, _, _, hl, hxl, hg⟩ := DataW.trod_struct Tryd.underlying33 hf
  have h4 : Tryd.prog.cellsOf 33 = 4 := by kernel_rfl
  obtain ⟨l⟩ := cs
  have hl4 : l.length = 4 := by rw [← h4]; simpa using hsz
  match l, hl4, xs, hxl with
  | [c0, c1, c2, c3], _, [y0, y1, y2, y3], _ =>
    have g0 := hg 0 _ rfl
    have g1 := hg 1 _ rfl
    have g2 := hg 2 _ rfl
    have g3 := hg 3 _ rfl
    simp [Value.cells, cellsDs, cellsIs] at g0 g1 g2 g3
    obtain ⟨A, na, ca, ds, rfl, a1, a2⟩ := open_datasf g0
    obtain ⟨B, nb, cb, ps, rfl, b1, b2⟩ := open_datasf g1
    obtain ⟨C, nc, cc, ld, rfl, c1, c2⟩ := open_rdf g2
    obtain ⟨D, nd, cd, lp, rfl, d1, d2⟩ := open_rdf g3
    exact ⟨A, B, C, D, na, nb, nc, nd, ca, cb, cc, cd, ds, ps, ld, lp, rfl, a1, b1, c1, d1, a2, b2, c2, d2⟩

set_option maxRecDepth 100000 in
theorem lifted (os : Os) (started : os.Started) (H : Type) (enc : TypeId × Value → H) :
    ReturnsInHanded {} Tryd.checked os 4 .any (fun w args => (Rows.transferGroupsSpec.pre enc Tryd.prog Tryd.f4 [] false w args ∧ laidMetH Tryd.prog laidP w) ∧ sizedMet enc Tryd.prog Tryd.f4 (OpenSpec.ofChange Rows.transferGroupsSpec) false w args)
      (Rows.transferGroupsSpec.post enc Tryd.prog Tryd.f4 false true false false) := by
  refine returnsInHanded_of_change_and (C := Tryd.checked) (X := fun w _ => laidMetH Tryd.prog laidP w) (fun _ _ _ hh h => h.of_heap hh) own started (by kernel_rfl) Tryd.func4
    (ChangeSpec.witness_shaped (enc := enc) (C := Tryd.checked) (os := os) (X := fun w _ => laidMetH Tryd.prog laidP w) false (World.doorLaid Tryd.prog 400 os) #[.agg #[.slice none 0 0, .slice none 0 0, .slice none 0 0, .slice none 0 0]] 8 rfl (World.shaped_of_RefB (by kernel_rfl) (by kernel_rfl)) (by kernel_rfl) (by kernel_rfl) (by kernel_rfl) (door_met os _)) ?_
  intro W base args ds gs before hval0 hW _ _ hL _
  have hval : ∀ (j : Nat) t v, Tryd.f4.params[j]? = some t → args[j]? = some v → Value.okWide Tryd.prog W .any base t v := hval0
  have hW' := hW
  obtain ⟨p, q, hA0, hV, rfl, hfz, hnd⟩ := hW
  have hA : DataW.TrodAll enc Tryd.prog W 0 (fun _ => true) true Tryd.f4.params.toList args.toList ds p := hA0
  rw [Tryd.params4] at hA hval
  obtain ⟨v0, vs0, d0, ds0, p0, q0, hargs, rfl, rfl, h0, r0⟩ := trodAll_cons hA
  obtain ⟨rfl, rfl, rfl⟩ := trodAll_nil r0
  obtain rfl : args = #[v0] := by cases args; simp_all
  obtain ⟨rfl, rfl⟩ := trodVars_none hV
  have lt0 : ∀ x ∈ p0, x.block < W.heap.size := by obtain ⟨m, hm⟩ := h0; exact DataW.trod_lt m _ _ _ hm
  obtain ⟨A, B, C, D, n, m, l, r0, ca, cb, cc, cd, ds, ps, ld, lp, rfl, a1, b1, c1, d1, a2, b2, c2, d2⟩ := open_group (hval 0 33 v0 rfl rfl) h0
  have hl := of_laid hL
  clear hA0 hval0
  refine (groups_walk A B C D n m l r0 ca cb cc cd ds ps ld lp W hl a1 b1 c1 d1 a2 b2 c2 d2).mono fun e W' ⟨he, bel⟩ => ?_
  subst he
  exact ⟨_, rfl, _, _, _, [], _, [], hW', trodAll_mk1 (shut_bool Tryd.underlying4 _), (trodAll_cons_mk (Below.trod laidOut (by kernel_rfl) (of_decide_eq_true (by kernel_rfl)) h0 bel lt0) trodAll_mk0), rfl, bel.frame _, fun h => by cases h⟩

theorem row_holds : Rows.TransferGroupsSaid :=
  OpenClaim.holds_of_wide 4 Tryd.f4 rfl rfl rfl rfl rfl rfl rfl ⟨rfl, rfl, rfl, rfl, rfl⟩ rfl rfl rfl rfl rfl (by kernel_rfl) Tryd.func4 (by kernel_rfl)
    (of_decide_eq_true (by kernel_rfl)) (by unfold Func.isWrapper; first | (rw [if_pos (by decide +kernel)]; kernel_rfl) | (rw [if_neg (by decide +kernel)]; exact ⟨rfl, rfl⟩))
    (fun os started H enc _ => lifted os started H enc)

theorem card_holds : Rows.TransferGroupsCardSaid :=
  Claim7.holds_tied_plain_at .later [] [.data] true (true, "29b90593494b6c2f7cd4615bec69584594b01d4ccdbfeb1653e0db9d5442e56c") false
    row_holds (fun _ h => by cases h) (by kernel_rfl) (fun _ h => by cases h) transferGroups_row_tie rfl ⟨rfl, rfl⟩ (by kernel_rfl) rfl
    (fun f fn hf hfn => by
      obtain rfl : f = 4 := Option.some.inj ((show Tryd.prog.funcNamed "lacquer/lacquerlaw01.TransferGroups" = some 4 by kernel_rfl).symm.trans hf) |>.symm
      obtain rfl : fn = Tryd.f4 := (Option.some.inj (Tryd.func4.symm.trans hfn)).symm
      exact ⟨by kernel_rfl, fun j t ht => by
        rw [Tryd.params4] at ht
        have hm : t ∈ [33] := by simpa using Array.mem_of_getElem? ht
        have hall : ([33].all fun u => !Tryd.prog.wantsStandIn u) = true := by kernel_rfl
        exact (show Tryd.prog.wantsStandIn t = false by simpa using List.all_eq_true.1 hall t hm)⟩)
    (by kernel_rfl)
#print axioms card_holds
end Go.Proofs.YtjjflbnopphciabDoor.groups
