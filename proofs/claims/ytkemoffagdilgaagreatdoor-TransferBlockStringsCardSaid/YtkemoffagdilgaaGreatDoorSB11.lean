/-
  lacquerlaw01.TransferBlockStrings answers true for every block and string: the string of a block, and the block with a string, or the errors, are the reference's, and valid blocks are parsed again. Conditions: none of its own; the listed variables are tied to the program's text by the given tie.
-/
import Derived.Test.YtkemoffagdilgaaGreatDoorSB10
import Derived.Test.YtkemoffagdilgaaGreatDoorSB7
import Derived.Test.YtkemoffagdilgaaGreatDoorW26
import Derived.Test.YtkemoffagdilgaaGreatDoorCards
import Derived.SevenTiedAt
import Derived.ShutString
import Derived.Lay
import Derived.LaidOnce
import Derived.HandedShaped
namespace Go.Proofs.YtkemoffagdilgaaGreatDoor.blockStrings
open Go.ChangeShapes Go.WideShapes Go.ChangeAt Go.RowKit

set_option maxRecDepth 100000 in
theorem open11b {H : Type} {enc : TypeId × Value → H} {w : World} {base : Nat} {spare : Nat → Bool} {held : Bool} {r : Reach} {b0 : Nat} {v : Value} {d : DataW H} {p : List MemPlace}
    (hv : Value.okWide Tryz.prog w r b0 24 v) (h : DataW.Trod enc Tryz.prog w base spare held 24 v d p) :
    ∃ c h x0 x1 x2 x3 x4 x5 x6 x7 s : Int, v = .agg #[.int .i64 c, .int .i64 h, .int .i64 x0, .int .i64 x1, .int .i64 x2, .int .i64 x3, .int .i64 x4, .int .i64 x5, .int .i64 x6, .int .i64 x7, .int .i64 s] ∧ ∀ y ∈ ([c, h, x0, x1, x2, x3, x4, x5, x6, x7, s] : List Int), -9223372036854775808 ≤ y ∧ y ≤ 9223372036854775807 := by
  obtain ⟨cs, rfl, hsz⟩ := okWide_struct Tryz.underlying24 hv
  obtain ⟨fuel, hf⟩ := h
  obtain ⟨xs, n, _, _, hl, hxl, hg⟩ := DataW.trod_struct Tryz.underlying24 hf
  have h11 : Tryz.prog.cellsOf 24 = 11 := by kernel_rfl
  have h8 : Tryz.prog.cellsOf 22 = 8 := by kernel_rfl
  obtain ⟨l⟩ := cs
  have hl11 : l.length = 11 := by rw [← h11]; simpa using hsz
  obtain ⟨c0, c1, c2, c3, c4, c5, c6, c7, c8, c9, c10, rfl⟩ := len11 l hl11
  · obtain ⟨y0, y1, y2, y3, rfl⟩ := len4 xs hxl
    · have hd : True := trivial
      have g0 := hg 0 _ rfl
      have g1 := hg 1 _ rfl
      have g2 := hg 2 _ rfl
      have g3 := hg 3 _ rfl
      simp [Value.cells, cellsInt, h8] at g0 g1 g2 g3
      obtain ⟨z0, e0, _, u0⟩ := DataW.trod_int Tryz.underlying3 g0
      obtain ⟨z1, e1, _, u1⟩ := DataW.trod_int Tryz.underlying3 g1
      obtain ⟨z10, e10, _, u10⟩ := DataW.trod_int Tryz.underlying3 g3
      obtain ⟨us, m, _, _, _, hul, hel⟩ := DataW.trod_array arrUnder g2
      have el : ∀ i, i < 8 → ∃ z : Int, [c2, c3, c4, c5, c6, c7, c8, c9][i]? = some (.int .i64 z) ∧ (Lit.int .i64 z).wf = true := by
        intro i hi
        have q := hel i hi
        rw [cellsInt, List.getElem?_eq_getElem (show i < us.length by omega)] at q
        obtain ⟨z, e, _, u⟩ := DataW.trod_int Tryz.underlying3 q
        refine ⟨z, ?_, u⟩
        have := congrArg (fun x : List Value => x[0]?) e
        simp only [List.getElem?_take, List.getElem?_drop] at this
        simpa using this
      obtain ⟨z2, e2, u2⟩ := el 0 (by omega)
      obtain ⟨z3, e3, u3⟩ := el 1 (by omega)
      obtain ⟨z4, e4, u4⟩ := el 2 (by omega)
      obtain ⟨z5, e5, u5⟩ := el 3 (by omega)
      obtain ⟨z6, e6, u6⟩ := el 4 (by omega)
      obtain ⟨z7, e7, u7⟩ := el 5 (by omega)
      obtain ⟨z8, e8, u8⟩ := el 6 (by omega)
      obtain ⟨z9, e9, u9⟩ := el 7 (by omega)
      simp at e0 e1 e2 e3 e4 e5 e6 e7 e8 e9 e10
      refine ⟨z0, z1, z2, z3, z4, z5, z6, z7, z8, z9, z10, by rw [e0, e1, e2, e3, e4, e5, e6, e7, e8, e9, e10], ?_⟩
      have bd : ∀ {a : Int}, (Lit.int .i64 a).wf = true → -9223372036854775808 ≤ a ∧ a ≤ 9223372036854775807 := fun h => by have := bounds_i64 h; omega
      intro y hy
      simp only [List.mem_cons, List.not_mem_nil, or_false] at hy
      rcases hy with rfl | rfl | rfl | rfl | rfl | rfl | rfl | rfl | rfl | rfl | rfl
      · exact bd u0
      · exact bd u1
      · exact bd u2
      · exact bd u3
      · exact bd u4
      · exact bd u5
      · exact bd u6
      · exact bd u7
      · exact bd u8
      · exact bd u9
      · exact bd u10

set_option maxRecDepth 100000 in
/-- A block as it comes in: eleven integers. -/
theorem openBlk {H : Type} {enc : TypeId × Value → H} {w : World} {base : Nat} {spare : Nat → Bool} {held : Bool} {r : Reach} {b0 : Nat} {v : Value} {d : DataW H} {p : List MemPlace}
    (hv : Value.okWide Tryz.prog w r b0 24 v) (h : DataW.Trod enc Tryz.prog w base spare held 24 v d p) :
    ∃ f : Nat → Int, v = .agg (bRow f) ∧ ∀ i, -9223372036854775808 ≤ f i ∧ f i ≤ 9223372036854775807 := by
  obtain ⟨c, hh, x0, x1, x2, x3, x4, x5, x6, x7, s, rfl, hb⟩ := open11b hv h
  refine ⟨fun i => [c, hh, x0, x1, x2, x3, x4, x5, x6, x7, s].getD i 0, rfl, fun i => ?_⟩
  show _ ≤ ([c, hh, x0, x1, x2, x3, x4, x5, x6, x7, s] : List Int).getD i 0 ∧ ([c, hh, x0, x1, x2, x3, x4, x5, x6, x7, s] : List Int).getD i 0 ≤ _
  rw [List.getD_eq_getElem?_getD]
  cases hi : ([c, hh, x0, x1, x2, x3, x4, x5, x6, x7, s] : List Int)[i]? with
  | none => decide
  | some y => exact hb y (List.mem_of_getElem? hi)

theorem bs_any (s : ByteArray) (f : Nat → Int) (w : World) (hl : LaidB w) (hf : ∀ i, -9223372036854775808 ≤ f i ∧ f i ≤ 9223372036854775807) :
    Calls Tryz.prog 3 #[.agg (bRow f), .string s] w fun e w' => e = .returned (.bool true) ∧ Below w.heap.size w w' := by
  by_cases h : s.size ≤ 120
  · exact bs_main s f w hl h hf (fun W => refFmtB_any f W hf)
  · exact bs_long s f w hl (by omega)

set_option maxRecDepth 100000 in
theorem lifted (os : Os) (started : os.Started) (H : Type) (enc : TypeId × Value → H) :
    ReturnsInHanded {} Tryz.checked os 3 .any (fun w args => (Rows.transferBlockStringsSpec.pre enc Tryz.prog Tryz.f3 [] false w args ∧ laidMetH Tryz.prog laidBS w) ∧ sizedMet enc Tryz.prog Tryz.f3 (OpenSpec.ofChange Rows.transferBlockStringsSpec) false w args)
      (Rows.transferBlockStringsSpec.post enc Tryz.prog Tryz.f3 false true false false) := by
  refine returnsInHanded_of_calls own started (by kernel_rfl)
    (ChangeSpec.witness_shaped (enc := enc) (C := Tryz.checked) (os := os) (X := fun w _ => laidMetH Tryz.prog laidBS w) false (World.laidAll Tryz.prog os laidBS) #[.agg #[.int .i64 0, .int .i64 0, .int .i64 0, .int .i64 0, .int .i64 0, .int .i64 0, .int .i64 0, .int .i64 0, .int .i64 0, .int .i64 0, .int .i64 0], .string ByteArray.empty] 8 (World.laidAll_os _ _ _)
      (World.shaped_of_ZipB (by kernel_rfl) (by kernel_rfl)) (by kernel_rfl) (by kernel_rfl) (by kernel_rfl)
      (by rw [MakeChecks.laidMetH_plain _ _ _ (by kernel_rfl)]; exact laidMet_laidAll _ (by kernel_rfl) (by kernel_rfl))) ?_
  intro w tape i _ hsh _ hok hpre _
  obtain ⟨_, _, _, fn, hfn, _, _, _, _, hval0⟩ := hok
  obtain rfl : fn = Tryz.f3 := Option.some.inj (hfn.symm.trans Tryz.func3)
  obtain ⟨⟨⟨ds, gs, before, hw0, _⟩, hx⟩, _⟩ := hpre
  have hW0 := DataW.Whole.of_heap (w' := w.forCall tape i) (by rfl) hw0
  have hL : laidMetH Tryz.prog laidBS (w.forCall tape i) := hx.of_heap (by rfl)
  obtain ⟨W, hWW⟩ : ∃ W, w.forCall tape i = W := ⟨_, rfl⟩
  obtain ⟨args, hargs0⟩ : ∃ a, i.args = a := ⟨_, rfl⟩
  rw [hWW] at hL hW0 hsh hval0 ⊢
  rw [hargs0] at hW0 hval0 ⊢
  have hval : ∀ (j : Nat) t v, Tryz.f3.params[j]? = some t → args[j]? = some v → Value.okWide Tryz.prog W .any w.heap.size t v := hval0
  have hW' := hW0
  obtain ⟨p, q, hA0, hV, rfl, hfz, hnd⟩ := hW0
  have hA : DataW.TrodAll enc Tryz.prog W 0 (fun _ => true) true Tryz.f3.params.toList args.toList ds p := hA0
  rw [Tryz.params3] at hA hval
  obtain ⟨v0, vs0, d0, ds0, p0, q0, hargs, rfl, rfl, h0, r0⟩ := trodAll_cons hA
  obtain ⟨v1, vs1, d1, ds1, p1, q1, rfl, rfl, rfl, h1, r1⟩ := trodAll_cons r0
  obtain ⟨rfl, rfl, rfl⟩ := trodAll_nil r1
  obtain rfl : args = #[v0, v1] := by cases args; simp_all
  obtain ⟨rfl, rfl⟩ := trodVars_none hV
  have lt0 : ∀ x ∈ p0, x.block < W.heap.size := by obtain ⟨m, hm⟩ := h0; exact DataW.trod_lt m _ _ _ hm
  have lt1 : ∀ x ∈ p1, x.block < W.heap.size := by obtain ⟨m, hm⟩ := h1; exact DataW.trod_lt m _ _ _ hm
  obtain ⟨f, rfl, hf⟩ := openBlk (hval 0 24 v0 rfl rfl) h0
  obtain ⟨s, rfl⟩ := okWide_string Tryz.underlying9 (hval 1 9 v1 rfl rfl)
  have hl : LaidB W := of_laidBS hL (Tryz.laysM147 |>.s1_3 W hsh)
  clear hA0 hval0
  refine (bs_any s f W hl hf).mono fun e W' ⟨he, bel⟩ => ?_
  subst he
  refine ChangeSpec.post_blind (?_ : Rows.transferBlockStringsSpec.post enc Tryz.prog Tryz.f3 false true false false W #[_, _] _ W')
  exact ⟨_, _, _, [], _, [], hW', trodAll_mk1 (shut_bool Tryz.underlying4 _), (trodAll_cons_mk (Below.trod laidOut (by kernel_rfl) (of_decide_eq_true (by kernel_rfl)) h0 bel lt0) (trodAll_cons_mk (Below.trod laidOut (by kernel_rfl) (of_decide_eq_true (by kernel_rfl)) h1 bel lt1) trodAll_mk0)), rfl, bel.frame _, fun h => by cases h⟩

theorem row_holds : Rows.TransferBlockStringsSaid :=
  OpenClaim.holds_of_wide 3 Tryz.f3 rfl rfl rfl rfl rfl rfl rfl ⟨rfl, rfl, rfl, rfl, rfl⟩ rfl rfl rfl rfl rfl (by kernel_rfl) Tryz.func3 (by kernel_rfl)
    (of_decide_eq_true (by kernel_rfl)) (by unfold Func.isWrapper; first | (rw [if_pos (by decide +kernel)]; kernel_rfl) | (rw [if_neg (by decide +kernel)]; exact ⟨rfl, rfl⟩))
    (fun os started H enc _ => lifted os started H enc)

theorem card_holds : Rows.TransferBlockStringsCardSaid :=
  Claim7.holds_tied_plain_at .later [] [.data, .data, .data, .data, .data, .pinned] true (true, "105e8974e4acd73ddac587463f3a06c3e3a0ca469ca58d76660361f116a06e9d") false
    row_holds (fun _ h => by cases h) (by kernel_rfl) (fun _ h => by cases h) transferBlockStrings_row_tie rfl ⟨rfl, rfl⟩ (by kernel_rfl) rfl
    (fun f fn hf hfn => by
      obtain rfl : f = 3 := Option.some.inj ((show Tryz.prog.funcNamed "lacquer/lacquerlaw01.TransferBlockStrings" = some 3 by kernel_rfl).symm.trans hf) |>.symm
      obtain rfl : fn = Tryz.f3 := (Option.some.inj (Tryz.func3.symm.trans hfn)).symm
      exact ⟨by kernel_rfl, fun j t ht => by
        rw [Tryz.params3] at ht
        have hm : t ∈ [24, 9] := by simpa using Array.mem_of_getElem? ht
        have hall : ([24, 9].all fun u => !Tryz.prog.wantsStandIn u) = true := by kernel_rfl
        exact (show Tryz.prog.wantsStandIn t = false by simpa using List.all_eq_true.1 hall t hm)⟩)
    (by kernel_rfl)
#print axioms card_holds
end Go.Proofs.YtkemoffagdilgaaGreatDoor.blockStrings
