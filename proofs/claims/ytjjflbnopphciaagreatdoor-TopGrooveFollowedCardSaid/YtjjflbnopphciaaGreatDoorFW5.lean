/-
  lacquertop.TopGrooveFollowed answers true for every groove on a disc: a groove that is drawn into a bright image is followed by the best path of the unrolled strip, the prices prove it, a crack is reported where it is and bridged, and the velocities and the string of the bridged positions give them again. Conditions: none of its own; the listed variables are tied to the program's text by the given tie.
-/
import Derived.Test.YtjjflbnopphciaaGreatDoorFW2
import Derived.Test.YtjjflbnopphciaaGreatDoorXO
import Derived.Test.YtjjflbnopphciaaGreatDoorCards
import Derived.SevenTiedAt
import Derived.ShutString
import Derived.Lay
import Derived.LaidOnce
import Derived.HandedShaped
namespace Go.Proofs.YtjjflbnopphciaaGreatDoor.grooveFol
open Go.ChangeShapes Go.WideShapes Go.ChangeAt Go.RowKit

theorem len11 {α : Type} (l : List α) (h : l.length = 11) : ∃ a b c d e f g i j k m, l = [a, b, c, d, e, f, g, i, j, k, m] := by
  match l, h with
  | [a, b, c, d, e, f, g, i, j, k, m], _ => exact ⟨a, b, c, d, e, f, g, i, j, k, m, rfl⟩
theorem len4 {α : Type} (l : List α) (h : l.length = 4) : ∃ a b c d, l = [a, b, c, d] := by
  match l, h with
  | [a, b, c, d], _ => exact ⟨a, b, c, d, rfl⟩
theorem arrUnder : Tryz.prog.underlying 35 = some (.array 8 3) := by kernel_rfl

set_option maxRecDepth 100000 in
/-- A groove on a disc as it comes in: eleven integers. -/
theorem openDisc {H : Type} {enc : TypeId × Value → H} {w : World} {base : Nat} {spare : Nat → Bool} {held : Bool} {r : Reach} {b0 : Nat} {v : Value} {d : DataW H} {p : List MemPlace}
    (hv : Value.okWide Tryz.prog w r b0 37 v) (h : DataW.Trod enc Tryz.prog w base spare held 37 v d p) :
    ∃ (R : Nat → Int) (L b c : Int), v = .agg (gdRow R L b c) := by
  obtain ⟨cs, rfl, hsz⟩ := okWide_struct Tryz.underlying37 hv
  obtain ⟨fuel, hf⟩ := h
  obtain ⟨xs, n, _, _, hl, hxl, hg⟩ := DataW.trod_struct Tryz.underlying37 hf
  have h11 : Tryz.prog.cellsOf 37 = 11 := by kernel_rfl
  have h8 : Tryz.prog.cellsOf 35 = 8 := by kernel_rfl
  obtain ⟨l⟩ := cs
  have hl11 : l.length = 11 := by rw [← h11]; simpa using hsz
  obtain ⟨c0, c1, c2, c3, c4, c5, c6, c7, c8, c9, c10, rfl⟩ := len11 l hl11
  obtain ⟨y0, y1, y2, y3, rfl⟩ := len4 xs hxl
  have g0 := hg 0 _ rfl
  have g1 := hg 1 _ rfl
  have g2 := hg 2 _ rfl
  have g3 := hg 3 _ rfl
  simp [Value.cells, cellsInt1, h8] at g0 g1 g2 g3
  obtain ⟨z8, e8, _, _⟩ := DataW.trod_int Tryz.underlying3 g1
  obtain ⟨z9, e9, _, _⟩ := DataW.trod_int Tryz.underlying3 g2
  obtain ⟨z10, e10, _, _⟩ := DataW.trod_int Tryz.underlying3 g3
  obtain ⟨us, m, _, _, _, hul, hel⟩ := DataW.trod_array arrUnder g0
  have el : ∀ i, i < 8 → ∃ z : Int, [c0, c1, c2, c3, c4, c5, c6, c7][i]? = some (.int .i64 z) := by
    intro i hi
    have q := hel i hi
    rw [cellsInt1, List.getElem?_eq_getElem (show i < us.length by omega)] at q
    obtain ⟨z, e, _, _⟩ := DataW.trod_int Tryz.underlying3 q
    refine ⟨z, ?_⟩
    have := congrArg (fun x : List Value => x[0]?) e
    simp only [List.getElem?_take, List.getElem?_drop] at this
    simpa using this
  obtain ⟨z0, e0⟩ := el 0 (by omega)
  obtain ⟨z1, e1⟩ := el 1 (by omega)
  obtain ⟨z2, e2⟩ := el 2 (by omega)
  obtain ⟨z3, e3⟩ := el 3 (by omega)
  obtain ⟨z4, e4⟩ := el 4 (by omega)
  obtain ⟨z5, e5⟩ := el 5 (by omega)
  obtain ⟨z6, e6⟩ := el 6 (by omega)
  obtain ⟨z7, e7⟩ := el 7 (by omega)
  simp at e0 e1 e2 e3 e4 e5 e6 e7 e8 e9 e10
  refine ⟨fun i => [z0, z1, z2, z3, z4, z5, z6, z7].getD i 0, z8, z9, z10, ?_⟩
  rw [e0, e1, e2, e3, e4, e5, e6, e7, e8, e9, e10]
  rfl

theorem tgf_any (R : Nat → Int) (L b c : Int) (w : World) (hl : LaidG w) :
    Calls Tryz.prog 4 #[.agg (gdRow R L b c)] w fun e w' => e = .returned (.bool true) ∧ Below w.heap.size w w' := by
  by_cases h0 : 1 ≤ L ∧ L ≤ 255
  · by_cases h1 : 0 ≤ b ∧ b ≤ 1000
    · by_cases h7 : L ≤ 7 * b
      · exact tgf_e3 R L b c w h0 h1 h7
      · by_cases h2 : -1 ≤ c ∧ c ≤ 6
        · exact tgf_main R L b c w hl h0 h1 h2 h7
        · exact tgf_e4 R L b c w h0 h1 h2 h7
    · exact tgf_e2 R L b c w h0 h1
  · exact tgf_e1 R L b c w h0

set_option maxRecDepth 100000 in
theorem lifted (os : Os) (started : os.Started) (H : Type) (enc : TypeId × Value → H) :
    ReturnsInHanded {} Tryz.checked os 4 .any (fun w args => (Rows.topGrooveFollowedSpec.pre enc Tryz.prog Tryz.f4 [] false w args ∧ laidMetH Tryz.prog laidGS w) ∧ sizedMet enc Tryz.prog Tryz.f4 (OpenSpec.ofChange Rows.topGrooveFollowedSpec) false w args)
      (Rows.topGrooveFollowedSpec.post enc Tryz.prog Tryz.f4 false true false false) := by
  refine returnsInHanded_of_calls own started (by kernel_rfl)
    (ChangeSpec.witness_shaped (enc := enc) (C := Tryz.checked) (os := os) (X := fun w _ => laidMetH Tryz.prog laidGS w) false (World.laidAll Tryz.prog os laidGS) #[.agg #[.int .i64 0, .int .i64 0, .int .i64 0, .int .i64 0, .int .i64 0, .int .i64 0, .int .i64 0, .int .i64 0, .int .i64 0, .int .i64 0, .int .i64 0]] 8 (World.laidAll_os _ _ _)
      (World.shaped_of_ZipB (by kernel_rfl) (by kernel_rfl)) (by kernel_rfl) (by kernel_rfl) (by kernel_rfl)
      (by rw [MakeChecks.laidMetH_plain _ _ _ (by kernel_rfl)]; exact laidMet_laidAll _ (by kernel_rfl) (by kernel_rfl))) ?_
  intro w tape i _ hsh _ hok hpre _
  obtain ⟨_, _, _, fn, hfn, _, _, _, _, hval0⟩ := hok
  obtain rfl : fn = Tryz.f4 := Option.some.inj (hfn.symm.trans Tryz.func4)
  obtain ⟨⟨⟨ds, gs, before, hw0, _⟩, hx⟩, _⟩ := hpre
  have hW0 := DataW.Whole.of_heap (w' := w.forCall tape i) (by rfl) hw0
  have hL : laidMetH Tryz.prog laidGS (w.forCall tape i) := hx.of_heap (by rfl)
  obtain ⟨W, hWW⟩ : ∃ W, w.forCall tape i = W := ⟨_, rfl⟩
  obtain ⟨args, hargs0⟩ : ∃ a, i.args = a := ⟨_, rfl⟩
  rw [hWW] at hL hW0 hsh hval0 ⊢
  rw [hargs0] at hW0 hval0 ⊢
  have hval : ∀ (j : Nat) t v, Tryz.f4.params[j]? = some t → args[j]? = some v → Value.okWide Tryz.prog W .any w.heap.size t v := hval0
  have hW' := hW0
  obtain ⟨p, q, hA0, hV, rfl, hfz, hnd⟩ := hW0
  have hA : DataW.TrodAll enc Tryz.prog W 0 (fun _ => true) true Tryz.f4.params.toList args.toList ds p := hA0
  rw [Tryz.params4] at hA hval
  obtain ⟨v0, vs0, d0, ds0, p0, q0, hargs, rfl, rfl, h0, r0⟩ := trodAll_cons hA
  obtain ⟨rfl, rfl, rfl⟩ := trodAll_nil r0
  obtain rfl : args = #[v0] := by cases args; simp_all
  obtain ⟨rfl, rfl⟩ := trodVars_none hV
  have lt0 : ∀ x ∈ p0, x.block < W.heap.size := by obtain ⟨m, hm⟩ := h0; exact DataW.trod_lt m _ _ _ hm
  obtain ⟨R, L, b, c, rfl⟩ := openDisc (hval 0 37 v0 rfl rfl) h0
  have hl : LaidG W := of_laidGS hL (Tryz.laysM146 |>.s1_3 W hsh)
  clear hA0 hval0
  refine (tgf_any R L b c W hl).mono fun e W' ⟨he, bel⟩ => ?_
  subst he
  refine ChangeSpec.post_blind (?_ : Rows.topGrooveFollowedSpec.post enc Tryz.prog Tryz.f4 false true false false W #[_] _ W')
  exact ⟨_, _, _, [], _, [], hW', trodAll_mk1 (shut_bool Tryz.underlying4 _), (trodAll_cons_mk (Below.trod laidOut (by kernel_rfl) (of_decide_eq_true (by kernel_rfl)) h0 bel lt0) trodAll_mk0), rfl, bel.frame _, fun h => by cases h⟩

theorem row_holds : Rows.TopGrooveFollowedSaid :=
  OpenClaim.holds_of_wide 4 Tryz.f4 rfl rfl rfl rfl rfl rfl rfl ⟨rfl, rfl, rfl, rfl, rfl⟩ rfl rfl rfl rfl rfl (by kernel_rfl) Tryz.func4 (by kernel_rfl)
    (of_decide_eq_true (by kernel_rfl)) (by unfold Func.isWrapper; first | (rw [if_pos (by decide +kernel)]; kernel_rfl) | (rw [if_neg (by decide +kernel)]; exact ⟨rfl, rfl⟩))
    (fun os started H enc _ => lifted os started H enc)

theorem card_holds : Rows.TopGrooveFollowedCardSaid :=
  Claim7.holds_tied_plain_at .later [] [.data, .data, .data, .data, .sentinel, .sentinel, .data, .pinned] true (true, "94a5d3855712791b22c5a56b3b3e8971417a378bf9648bdb80e7b3cef27e972b") true
    row_holds (fun _ h => by cases h) (by kernel_rfl) (fun _ h => by cases h) topGrooveFollowed_row_tie rfl ⟨rfl, rfl⟩ (by kernel_rfl) rfl
    (fun f fn hf hfn => by
      obtain rfl : f = 4 := Option.some.inj ((show Tryz.prog.funcNamed "lacquer/lacquertop.TopGrooveFollowed" = some 4 by kernel_rfl).symm.trans hf) |>.symm
      obtain rfl : fn = Tryz.f4 := (Option.some.inj (Tryz.func4.symm.trans hfn)).symm
      exact ⟨by kernel_rfl, fun j t ht => by
        rw [Tryz.params4] at ht
        have hm : t ∈ [37] := by simpa using Array.mem_of_getElem? ht
        have hall : ([37].all fun u => !Tryz.prog.wantsStandIn u) = true := by kernel_rfl
        exact (show Tryz.prog.wantsStandIn t = false by simpa using List.all_eq_true.1 hall t hm)⟩)
    (by kernel_rfl)
#print axioms card_holds
end Go.Proofs.YtjjflbnopphciaaGreatDoor.grooveFol
