import Derived.Test.YtepcciodhppbnaaE21

namespace Go.Proofs.Ytepcciodhppbnaa
open Go.RowKit

theorem ownBelow {w w' : World} {base : Nat} {e : TypeId} {size : Nat} {v : Value} {n : Nat} {xs : List Value} (h : w.ownsRow base e size v n xs) (hb : Below w.heap.size w w') : w'.ownsRow base e size v n xs := by
  refine ⟨h.1, ?_⟩
  rcases h.2 with h0 | ⟨g, cap, cur, h1, h2, h3, h4⟩
  · exact .inl h0
  · exact .inr ⟨g, cap, cur, h1, h2, (hb.block g (Array.getElem?_eq_some_iff.1 h3).1).trans h3, h4⟩
/-- All outputs, and the error. -/
def resOut (f : Int → Int) (p : List Int × Int) : List Int × Int := if p.2 = 0 then (p.1.map f, 0) else ([], p.2)
theorem OwnRes.mk' {w w' : World} {f : Int → Int} {p : List Int × Int} {xs : List Int} {E : Int} {v : Value} {e : Ending} (h : resOut f p = (xs, E)) (he : e = .returned (.tuple #[v, .int .i64 E]))
    (ho : w'.ownsRow w.heap.size 3 1 v xs.length (xs.map (Value.int .i64))) (hb : Below w.heap.size w w') : OwnRes w (resOut f p).2 (resOut f p).1 e w' := by
  rw [h]
  exact ⟨⟨v, he, ho⟩, hb⟩
def outF (d : Int) (xs : List Int) (q : Int) : Int := if d = 1 then outV (vnum1 xs q) 64 else outV (vnum3 xs q) 1572864
theorem take_snoc {l : List Int} {k : Nat} (h : k < l.length) : l.take (k + 1) = l.take k ++ [l.getD k 0] := by
  rw [List.take_succ_eq_append_getElem h]
  simp [List.getD_eq_getElem?_getD, List.getElem?_eq_getElem h]
theorem posOut_mem {opv : Nat → Int × Int} {last q : Int} (h : q ∈ (posOut opv last).1) : q ≤ last ∧ ∃ k, q = (opv k).1 := by
  unfold posOut at h
  split at h
  · simp at h
  · rename_i hne
    simp only [List.mem_map, List.mem_range] at h
    obtain ⟨k, hk, rfl⟩ := h
    have key : ∀ (f k0 K : Nat), K < stopAt opv last k0 f → k0 ≤ K → goodAt opv last K := by
      intro f
      induction f with
      | zero => intro k0 K h1 h2; unfold stopAt at h1; omega
      | succ f ih =>
        intro k0 K h1 h2
        unfold stopAt at h1
        by_cases hg : goodAt opv last k0
        · rw [if_pos hg] at h1
          rcases (by omega : k0 = K ∨ k0 + 1 ≤ K) with rfl | h3
          · exact hg
          · exact ih (k0 + 1) K h1 h3
        · rw [if_neg hg] at h1; omega
    exact ⟨(key 2001 0 k hk (Nat.zero_le _)).2, k, rfl⟩

set_option maxRecDepth 100000 in
set_option maxHeartbeats 4000000 in
theorem Resampled1_ok (k0 k2 k3 k4 : Int) (A : Option Addr) (m c : Nat) (B : Option Addr) (n cb : Nat) (xs : List Int) (opv : Nat → Int × Int) (w : World) (hx : RdI w B n xs) (hsig : sigE xs = 0) (hpos : ∀ k, 0 ≤ (opv k).1)
    (hcr : ∀ W, Below w.heap.size w W → Calls Try.prog 17 #[.agg #[.int .i64 k0, .int .i64 1, .int .i64 k2, .int .i64 k3, .int .i64 k4, .slice A m c]] W fun e w' => e = .returned (.int .i64 0) ∧ Below W.heap.size W w')
    (hop : ∀ (k : Nat) W, k ≤ 2000 → (∀ g, g < w.heap.size → W.heap[g]? = w.heap[g]?) → w.heap.size ≤ W.heap.size → Calls Try.prog 119 #[.agg #[.int .i64 k0, .int .i64 1, .int .i64 k2, .int .i64 k3, .int .i64 k4, .slice A m c], .int .i64 k] W fun e w' => e = .returned (.tuple #[.int .i64 (opv k).1, .int .i64 (opv k).2]) ∧ Below W.heap.size W w') :
    Calls Try.prog 22 #[.agg #[.int .i64 k0, .int .i64 1, .int .i64 k2, .int .i64 k3, .int .i64 k4, .slice A m c], .slice B n cb] w (OwnRes w (resOut (outF 1 xs) (posOut opv (64 * ((n : Int) - 1)))).2 (resOut (outF 1 xs) (posOut opv (64 * ((n : Int) - 1)))).1) := by
  obtain ⟨hn4, hxs⟩ := sigE_zero hsig
  have hxl := hx.1
  rw [hxl] at hn4
  have HX := Lib.hid hx
  have HCR := Lib.hid hcr
  have CS : Hid (∀ W, Below w.heap.size w W → Calls Try.prog 71 #[.slice B n cb] W fun e w' => e = .returned (.int .i64 0) ∧ Below W.heap.size W w') := fun W hb => by have := checkSignal_any B n cb xs W (hx.below hb) (by omega); rwa [hsig] at this
  have CP : Hid (∀ W, Below w.heap.size w W → Calls Try.prog 14 #[.agg #[.int .i64 k0, .int .i64 1, .int .i64 k2, .int .i64 k3, .int .i64 k4, .slice A m c], .int .i64 n] W (OwnRes W (posOut opv (64 * ((n : Int) - 1))).2 (posOut opv (64 * ((n : Int) - 1))).1)) := fun W hb =>
    PositionsOf_ok k0 1 k2 k3 k4 A m c n opv W hn4 (fun W' hb' => hcr W' (hb.trans (hb'.mono hb.size))) (fun k W' hk h1 h2 => hop k W' hk (fun g hg => (h1 g (by have := hb.size; omega)).trans (hb.block g hg)) (by have := hb.size; omega))
  have C1 := Lib.hid (fun w => itpOf_1 w)
  have HQ : Hid (∀ q ∈ (posOut opv (64 * ((n : Int) - 1))).1, 0 < n ∧ 0 ≤ q ∧ q ≤ 100000000) := by
    intro q hq
    obtain ⟨h1, k, rfl⟩ := posOut_mem hq
    have := hpos k
    omega
  have CO : Hid (∀ q W, 0 < n → Below w.heap.size w W → 0 ≤ q ∧ q ≤ 100000000 → Calls Try.prog 72 #[itp1, .slice B n cb, .int .i64 q] W fun e w' => e = .returned (.int .i64 (outF 1 xs q)) ∧ Below W.heap.size W w') := fun q W h0 hb hq => out1_any B n cb xs q W (hx.below hb) (by omega) hxs hq
  have HLEN : Hid ((posOut opv (64 * ((n : Int) - 1))).1.length ≤ 2001) := by
    show _ ≤ _
    unfold posOut
    split
    · simp
    · simp only [List.length_map, List.length_range]
      have key : ∀ (f k0 : Nat), stopAt opv (64 * ((n : Int) - 1)) k0 f ≤ k0 + f := by
        intro f
        induction f with
        | zero => intro k0; unfold stopAt; omega
        | succ f ih =>
          intro k0
          unfold stopAt
          split
          · have := ih (k0 + 1); omega
          · omega
      have := key 2001 0
      omega
  clear hx hcr hop hxs hsig hpos hxl
  obtain ⟨⟨ps, E⟩, hps⟩ : ∃ p, posOut opv (64 * ((n : Int) - 1)) = p := ⟨_, rfl⟩
  rw [hps] at CP HQ HLEN ⊢
  dsimp only at CP HQ HLEN
  clear hps
  unfold itp1 at C1 CO
  go_enter Try.func22, Try.ntmps22
  go_wp2_with fail
  refine (HCR.out _ (by go_grown)).mono ?_
  rintro e w1 ⟨rfl, hb1⟩
  have R1 := Lib.hid (OneB.later hb1 (OneB.start w 26 #[.int .i64 k0, .int .i64 1, .int .i64 k2, .int .i64 k3, .int .i64 k4, .slice A m c]))
  clear hb1
  go_wp2_with fail
  refine (CS.out _ R1.out.b).mono ?_
  rintro e w2 ⟨rfl, hb2⟩
  have R2 := Lib.hid ((OneB.later hb2 R1.out).alloc (.cells #[.int .i64 0, .int .i64 0] 30))
  clear hb2 R1
  go_wp2_with fail
  refine (firstError2 (E1 := 0) (E2 := 0) (F := 0) rfl _ _ ?_ ?_).mono ?_
  · simp [go_sem]
  · simp [go_sem]
  rintro e w' ⟨rfl, rfl⟩
  obtain ⟨W3, hW3⟩ : ∃ W3, w2.alloc (.cells #[.int .i64 0, .int .i64 0] 30) = W3 := ⟨_, rfl⟩
  rw [hW3] at R2 ⊢
  clear hW3
  obtain ⟨c0, c1, c2, c3, c4, c5⟩ := R2.out.six
  go_wp2_with fail
  refine (CP.out _ R2.out.b).mono ?_
  rintro e w4 ⟨⟨v, rfl, hrow⟩, hb4⟩
  have R4 := Lib.hid (OneB.later hb4 R2.out)
  obtain ⟨A', c', rfl, hnc, hrd⟩ := rd_of_own hrow
  have HP := Lib.hid hrd
  clear hb4 hrow R2 c0 c1 c2 c3 c4 c5 CP hrd
  obtain ⟨c0, c1, c2, c3, c4, c5⟩ := R4.out.six
  go_wp2_with fail
  refine (C1.out _).mono ?_
  rintro e w5 ⟨rfl, hb5⟩
  have R5 := Lib.hid ((OneB.later hb5 R4.out).alloc (.cells #[.int .i64 1, .int .i64 0, .int .i64 64, .func (.func 120) #[] #[], .int .i64 8192, .func (.func 121) #[] #[]] 112))
  have HP5 := Lib.hid ((HP.out.below hb5).below (below1 w5 (.cells #[.int .i64 1, .int .i64 0, .int .i64 64, .func (.func 120) #[] #[], .int .i64 8192, .func (.func 121) #[] #[]] 112)))
  have KI := Lib.hid (Bk.new w5 112 #[.int .i64 1, .int .i64 0, .int .i64 64, .func (.func 120) #[] #[], .int .i64 8192, .func (.func 121) #[] #[]])
  have hz5 : w5.heap.size < (w5.alloc (.cells #[.int .i64 1, .int .i64 0, .int .i64 64, .func (.func 120) #[] #[], .int .i64 8192, .func (.func 121) #[] #[]] 112)).heap.size := by simp
  clear hb5 R4 HP c0 c1 c2 c3 c4 c5 C1
  go_wp2_with fail
  have hE0 : firstNZ [E, 0] = E := by by_cases h : E = 0 <;> simp [firstNZ, h]
  refine (firstError2 (E1 := E) (E2 := 0) (F := E) hE0 _ _ ?_ ?_).mono ?_
  · simp [go_sem]
  · simp [go_sem]
  clear hE0
  rintro e w' ⟨rfl, rfl⟩
  have R6 := Lib.hid (R5.out.alloc (.cells #[.int .i64 E, .int .i64 0] 30))
  have HP6 := Lib.hid (HP5.out.below (below1 (w5.alloc (.cells #[.int .i64 1, .int .i64 0, .int .i64 64, .func (.func 120) #[] #[], .int .i64 8192, .func (.func 121) #[] #[]] 112)) (.cells #[.int .i64 E, .int .i64 0] 30)))
  have K6 := Lib.hid (KI.out.alloc (.cells #[.int .i64 E, .int .i64 0] 30))
  have HX6 := Lib.hid (HX.out.below R6.out.b)
  have hz6 : w5.heap.size < ((w5.alloc (.cells #[.int .i64 1, .int .i64 0, .int .i64 64, .func (.func 120) #[] #[], .int .i64 8192, .func (.func 121) #[] #[]] 112)).alloc (.cells #[.int .i64 E, .int .i64 0] 30)).heap.size := by simp; omega
  clear R5 HP5 KI hz5
  obtain ⟨W6, hW6⟩ : ∃ W6, (w5.alloc (.cells #[.int .i64 1, .int .i64 0, .int .i64 64, .func (.func 120) #[] #[], .int .i64 8192, .func (.func 121) #[] #[]] 112)).alloc (.cells #[.int .i64 E, .int .i64 0] 30) = W6 := ⟨_, rfl⟩
  rw [hW6] at R6 HP6 K6 HX6 hz6 ⊢
  clear hW6
  have HB6 : Hid (Below w.heap.size w W6) := R6.out.b
  have hzw : w.heap.size ≤ W6.heap.size := HB6.out.size
  obtain ⟨g5, hg5⟩ : ∃ g, w5.heap.size = g := ⟨_, rfl⟩
  rw [hg5] at K6 hz6 ⊢
  clear R6 hg5
  by_cases hE : E = 0
  · subst hE
    have HRES : Hid (resOut (outF 1 xs) (ps, 0) = (ps.map (outF 1 xs), 0)) := by show _ = _; simp [resOut]
    obtain ⟨i0, hi0, hza, hzb, hzc⟩ := info_parts intInfo'
    go_wp2
    go_loopw [12, 46] (fun p i wr => ∃ k : Nat, k ≤ ps.length ∧ i = .int .i64 k ∧ Hid (wr.ownsRow W6.heap.size 3 1 p k (((ps.take k).map (outF 1 xs)).map (Value.int .i64))) ∧ Hid (Below W6.heap.size W6 wr)) (fun _ i _ => ps.length - (intOf i).toNat)
    case atStart => exact ⟨0, Nat.zero_le _, rfl, Lib.hid (World.ownsRow_nil _ _ _ _), Lib.hid (Below.refl _ _)⟩
    case round =>
      obtain ⟨k, hk, rfl, HI, HB⟩ := hrel
      obtain ⟨A2, cap2, hp, _, _⟩ := rd_of_own HI.out
      subst hp
      by_cases hlt : k < ps.length
      · have hkI : (k : Int) < (ps.length : Int) := by omega
        have hk0 : (0 : Int) ≤ (k : Int) := by omega
        obtain ⟨ad, rfl, hadb, hca⟩ := HP6.out.2 (by omega)
        have hck : wr.cell? (ad.add k) = some (.int .i64 (ps.getD k 0)) := (HB.out.cell (by rw [addBlock]; exact hadb)).trans (hca k hlt)
        clear hca
        have HSN : Hid (ps.take (k + 1) = ps.take k ++ [ps.getD k 0]) := take_snoc hlt
        have hqm := HQ.out (ps.getD k 0) (by rw [List.getD_eq_getElem?_getD, List.getElem?_eq_getElem hlt]; simp)
        obtain ⟨q, hq⟩ : ∃ q, ps.getD k 0 = q := ⟨_, rfl⟩
        rw [hq] at hck hqm HSN
        clear hq
        have KW : Hid (Bk wr g5 112 #[.int .i64 1, .int .i64 0, .int .i64 64, .func (.func 120) #[] #[], .int .i64 8192, .func (.func 121) #[] #[]]) := K6.out.later HB.out
        obtain ⟨c0, c1, c2, c3, c4, c5⟩ := bk6 KW.out
        have hBw : Hid (Below w.heap.size w wr) := HB6.out.trans (HB.out.mono hzw)
        go_wp2_with fail
        refine (CO.out q _ hqm.1 hBw.out hqm.2).mono ?_
        rintro e w7 ⟨rfl, hb7⟩
        have HI7 : Hid (w7.ownsRow W6.heap.size 3 1 (.slice A2 k cap2) k (((ps.take k).map (outF 1 xs)).map (Value.int .i64))) := ownBelow HI.out hb7
        have HB7 : Hid (Below W6.heap.size W6 w7) := HB.out.trans (hb7.mono HB.out.size)
        clear hb7 c0 c1 c2 c3 c4 c5 hck KW hBw
        have hlen := HLEN.out
        have hsz7 := HB7.out.size
        obtain ⟨y, hy⟩ : ∃ y, outF 1 xs q = y := ⟨_, rfl⟩
        have HY := Lib.hid hy
        rw [hy]
        clear hy
        go_wp2_with (at_builtin; refine wpList_append_own _ rfl (.tmp 50) (.tmp 55) 29 rfl W6.heap.size 3 i0 _ 1 8 Try.underlying29 hi0 hza hzb hzc rfl (by decide) _ _ _ rfl (HI7.out.alloc _) ⟨w7.heap.size, 0, none⟩ 1 1 [.int .i64 y] rfl rfl (cell_one_new _ _ _) (by simp [Value.oneCell']) (by unfold maxLen; omega) (by omega) (by simp; omega) ?_)
        intro v' w8 hown' hgrow _
        have HF : Hid (w8.ownsRow W6.heap.size 3 1 v' (k + 1) (((ps.take (k + 1)).map (outF 1 xs)).map (Value.int .i64))) := by
          refine Lib.hid ?_
          rw [HSN.out, List.map_append, List.map_append]
          simpa [HY.out] using hown'
        have HG : Hid (Below W6.heap.size W6 w8) := (HB7.out.alloc hsz7 _).grown hgrow (by simp; omega) (fun z e => (HI7.out.lt z e).1)
        clear hown' hgrow
        go_wp2
        go_roundw
        case rel => exact ⟨k + 1, by omega, by go_num, HF, HG⟩
        case measure => simp [intOf]; omega
      · obtain rfl : k = ps.length := by omega
        go_wp2
        go_ret2
        have h1 := ownMono HI.out hzw
        rw [List.take_length] at h1
        exact OwnRes.mk' HRES.out rfl (by rw [List.length_map]; exact h1) (HB6.out.trans (HB.out.mono hzw))
  · have HRES : Hid (resOut (outF 1 xs) (ps, E) = ([], E)) := by show _ = _; simp [resOut, hE]
    go_wp2
    go_ret2
    exact OwnRes.mk' HRES.out rfl (World.ownsRow_nil _ _ _ _) HB6.out

set_option maxRecDepth 100000 in
set_option maxHeartbeats 4000000 in
theorem Resampled3_ok (k0 k2 k3 k4 : Int) (A : Option Addr) (m c : Nat) (B : Option Addr) (n cb : Nat) (xs : List Int) (opv : Nat → Int × Int) (w : World) (hx : RdI w B n xs) (hsig : sigE xs = 0) (hpos : ∀ k, 0 ≤ (opv k).1)
    (hcr : ∀ W, Below w.heap.size w W → Calls Try.prog 17 #[.agg #[.int .i64 k0, .int .i64 3, .int .i64 k2, .int .i64 k3, .int .i64 k4, .slice A m c]] W fun e w' => e = .returned (.int .i64 0) ∧ Below W.heap.size W w')
    (hop : ∀ (k : Nat) W, k ≤ 2000 → (∀ g, g < w.heap.size → W.heap[g]? = w.heap[g]?) → w.heap.size ≤ W.heap.size → Calls Try.prog 119 #[.agg #[.int .i64 k0, .int .i64 3, .int .i64 k2, .int .i64 k3, .int .i64 k4, .slice A m c], .int .i64 k] W fun e w' => e = .returned (.tuple #[.int .i64 (opv k).1, .int .i64 (opv k).2]) ∧ Below W.heap.size W w') :
    Calls Try.prog 22 #[.agg #[.int .i64 k0, .int .i64 3, .int .i64 k2, .int .i64 k3, .int .i64 k4, .slice A m c], .slice B n cb] w (OwnRes w (resOut (outF 3 xs) (posOut opv (64 * ((n : Int) - 1)))).2 (resOut (outF 3 xs) (posOut opv (64 * ((n : Int) - 1)))).1) := by
  obtain ⟨hn4, hxs⟩ := sigE_zero hsig
  have hxl := hx.1
  rw [hxl] at hn4
  have HX := Lib.hid hx
  have HCR := Lib.hid hcr
  have CS : Hid (∀ W, Below w.heap.size w W → Calls Try.prog 71 #[.slice B n cb] W fun e w' => e = .returned (.int .i64 0) ∧ Below W.heap.size W w') := fun W hb => by have := checkSignal_any B n cb xs W (hx.below hb) (by omega); rwa [hsig] at this
  have CP : Hid (∀ W, Below w.heap.size w W → Calls Try.prog 14 #[.agg #[.int .i64 k0, .int .i64 3, .int .i64 k2, .int .i64 k3, .int .i64 k4, .slice A m c], .int .i64 n] W (OwnRes W (posOut opv (64 * ((n : Int) - 1))).2 (posOut opv (64 * ((n : Int) - 1))).1)) := fun W hb =>
    PositionsOf_ok k0 3 k2 k3 k4 A m c n opv W hn4 (fun W' hb' => hcr W' (hb.trans (hb'.mono hb.size))) (fun k W' hk h1 h2 => hop k W' hk (fun g hg => (h1 g (by have := hb.size; omega)).trans (hb.block g hg)) (by have := hb.size; omega))
  have C1 := Lib.hid (fun w => itpOf_3 w)
  have HQ : Hid (∀ q ∈ (posOut opv (64 * ((n : Int) - 1))).1, 0 < n ∧ 0 ≤ q ∧ q ≤ 100000000) := by
    intro q hq
    obtain ⟨h1, k, rfl⟩ := posOut_mem hq
    have := hpos k
    omega
  have CO : Hid (∀ q W, 0 < n → Below w.heap.size w W → 0 ≤ q ∧ q ≤ 100000000 → Calls Try.prog 72 #[itp3, .slice B n cb, .int .i64 q] W fun e w' => e = .returned (.int .i64 (outF 3 xs q)) ∧ Below W.heap.size W w') := fun q W h0 hb hq => out3_any B n cb xs q W (hx.below hb) (by omega) hxs hq
  have HLEN : Hid ((posOut opv (64 * ((n : Int) - 1))).1.length ≤ 2001) := by
    show _ ≤ _
    unfold posOut
    split
    · simp
    · simp only [List.length_map, List.length_range]
      have key : ∀ (f k0 : Nat), stopAt opv (64 * ((n : Int) - 1)) k0 f ≤ k0 + f := by
        intro f
        induction f with
        | zero => intro k0; unfold stopAt; omega
        | succ f ih =>
          intro k0
          unfold stopAt
          split
          · have := ih (k0 + 1); omega
          · omega
      have := key 2001 0
      omega
  clear hx hcr hop hxs hsig hpos hxl
  obtain ⟨⟨ps, E⟩, hps⟩ : ∃ p, posOut opv (64 * ((n : Int) - 1)) = p := ⟨_, rfl⟩
  rw [hps] at CP HQ HLEN ⊢
  dsimp only at CP HQ HLEN
  clear hps
  unfold itp3 at C1 CO
  go_enter Try.func22, Try.ntmps22
  go_wp2_with fail
  refine (HCR.out _ (by go_grown)).mono ?_
  rintro e w1 ⟨rfl, hb1⟩
  have R1 := Lib.hid (OneB.later hb1 (OneB.start w 26 #[.int .i64 k0, .int .i64 3, .int .i64 k2, .int .i64 k3, .int .i64 k4, .slice A m c]))
  clear hb1
  go_wp2_with fail
  refine (CS.out _ R1.out.b).mono ?_
  rintro e w2 ⟨rfl, hb2⟩
  have R2 := Lib.hid ((OneB.later hb2 R1.out).alloc (.cells #[.int .i64 0, .int .i64 0] 30))
  clear hb2 R1
  go_wp2_with fail
  refine (firstError2 (E1 := 0) (E2 := 0) (F := 0) rfl _ _ ?_ ?_).mono ?_
  · simp [go_sem]
  · simp [go_sem]
  rintro e w' ⟨rfl, rfl⟩
  obtain ⟨W3, hW3⟩ : ∃ W3, w2.alloc (.cells #[.int .i64 0, .int .i64 0] 30) = W3 := ⟨_, rfl⟩
  rw [hW3] at R2 ⊢
  clear hW3
  obtain ⟨c0, c1, c2, c3, c4, c5⟩ := R2.out.six
  go_wp2_with fail
  refine (CP.out _ R2.out.b).mono ?_
  rintro e w4 ⟨⟨v, rfl, hrow⟩, hb4⟩
  have R4 := Lib.hid (OneB.later hb4 R2.out)
  obtain ⟨A', c', rfl, hnc, hrd⟩ := rd_of_own hrow
  have HP := Lib.hid hrd
  clear hb4 hrow R2 c0 c1 c2 c3 c4 c5 CP hrd
  obtain ⟨c0, c1, c2, c3, c4, c5⟩ := R4.out.six
  go_wp2_with fail
  refine (C1.out _).mono ?_
  rintro e w5 ⟨rfl, hb5⟩
  have R5 := Lib.hid ((OneB.later hb5 R4.out).alloc (.cells #[.int .i64 3, .int .i64 1, .int .i64 1572864, .func (.func 122) #[] #[], .int .i64 402653184, .func (.func 123) #[] #[]] 112))
  have HP5 := Lib.hid ((HP.out.below hb5).below (below1 w5 (.cells #[.int .i64 3, .int .i64 1, .int .i64 1572864, .func (.func 122) #[] #[], .int .i64 402653184, .func (.func 123) #[] #[]] 112)))
  have KI := Lib.hid (Bk.new w5 112 #[.int .i64 3, .int .i64 1, .int .i64 1572864, .func (.func 122) #[] #[], .int .i64 402653184, .func (.func 123) #[] #[]])
  have hz5 : w5.heap.size < (w5.alloc (.cells #[.int .i64 3, .int .i64 1, .int .i64 1572864, .func (.func 122) #[] #[], .int .i64 402653184, .func (.func 123) #[] #[]] 112)).heap.size := by simp
  clear hb5 R4 HP c0 c1 c2 c3 c4 c5 C1
  go_wp2_with fail
  have hE0 : firstNZ [E, 0] = E := by by_cases h : E = 0 <;> simp [firstNZ, h]
  refine (firstError2 (E1 := E) (E2 := 0) (F := E) hE0 _ _ ?_ ?_).mono ?_
  · simp [go_sem]
  · simp [go_sem]
  clear hE0
  rintro e w' ⟨rfl, rfl⟩
  have R6 := Lib.hid (R5.out.alloc (.cells #[.int .i64 E, .int .i64 0] 30))
  have HP6 := Lib.hid (HP5.out.below (below1 (w5.alloc (.cells #[.int .i64 3, .int .i64 1, .int .i64 1572864, .func (.func 122) #[] #[], .int .i64 402653184, .func (.func 123) #[] #[]] 112)) (.cells #[.int .i64 E, .int .i64 0] 30)))
  have K6 := Lib.hid (KI.out.alloc (.cells #[.int .i64 E, .int .i64 0] 30))
  have HX6 := Lib.hid (HX.out.below R6.out.b)
  have hz6 : w5.heap.size < ((w5.alloc (.cells #[.int .i64 3, .int .i64 1, .int .i64 1572864, .func (.func 122) #[] #[], .int .i64 402653184, .func (.func 123) #[] #[]] 112)).alloc (.cells #[.int .i64 E, .int .i64 0] 30)).heap.size := by simp; omega
  clear R5 HP5 KI hz5
  obtain ⟨W6, hW6⟩ : ∃ W6, (w5.alloc (.cells #[.int .i64 3, .int .i64 1, .int .i64 1572864, .func (.func 122) #[] #[], .int .i64 402653184, .func (.func 123) #[] #[]] 112)).alloc (.cells #[.int .i64 E, .int .i64 0] 30) = W6 := ⟨_, rfl⟩
  rw [hW6] at R6 HP6 K6 HX6 hz6 ⊢
  clear hW6
  have HB6 : Hid (Below w.heap.size w W6) := R6.out.b
  have hzw : w.heap.size ≤ W6.heap.size := HB6.out.size
  obtain ⟨g5, hg5⟩ : ∃ g, w5.heap.size = g := ⟨_, rfl⟩
  rw [hg5] at K6 hz6 ⊢
  clear R6 hg5
  by_cases hE : E = 0
  · subst hE
    have HRES : Hid (resOut (outF 3 xs) (ps, 0) = (ps.map (outF 3 xs), 0)) := by show _ = _; simp [resOut]
    obtain ⟨i0, hi0, hza, hzb, hzc⟩ := info_parts intInfo'
    go_wp2
    go_loopw [12, 46] (fun p i wr => ∃ k : Nat, k ≤ ps.length ∧ i = .int .i64 k ∧ Hid (wr.ownsRow W6.heap.size 3 1 p k (((ps.take k).map (outF 3 xs)).map (Value.int .i64))) ∧ Hid (Below W6.heap.size W6 wr)) (fun _ i _ => ps.length - (intOf i).toNat)
    case atStart => exact ⟨0, Nat.zero_le _, rfl, Lib.hid (World.ownsRow_nil _ _ _ _), Lib.hid (Below.refl _ _)⟩
    case round =>
      obtain ⟨k, hk, rfl, HI, HB⟩ := hrel
      obtain ⟨A2, cap2, hp, _, _⟩ := rd_of_own HI.out
      subst hp
      by_cases hlt : k < ps.length
      · have hkI : (k : Int) < (ps.length : Int) := by omega
        have hk0 : (0 : Int) ≤ (k : Int) := by omega
        obtain ⟨ad, rfl, hadb, hca⟩ := HP6.out.2 (by omega)
        have hck : wr.cell? (ad.add k) = some (.int .i64 (ps.getD k 0)) := (HB.out.cell (by rw [addBlock]; exact hadb)).trans (hca k hlt)
        clear hca
        have HSN : Hid (ps.take (k + 1) = ps.take k ++ [ps.getD k 0]) := take_snoc hlt
        have hqm := HQ.out (ps.getD k 0) (by rw [List.getD_eq_getElem?_getD, List.getElem?_eq_getElem hlt]; simp)
        obtain ⟨q, hq⟩ : ∃ q, ps.getD k 0 = q := ⟨_, rfl⟩
        rw [hq] at hck hqm HSN
        clear hq
        have KW : Hid (Bk wr g5 112 #[.int .i64 3, .int .i64 1, .int .i64 1572864, .func (.func 122) #[] #[], .int .i64 402653184, .func (.func 123) #[] #[]]) := K6.out.later HB.out
        obtain ⟨c0, c1, c2, c3, c4, c5⟩ := bk6 KW.out
        have hBw : Hid (Below w.heap.size w wr) := HB6.out.trans (HB.out.mono hzw)
        go_wp2_with fail
        refine (CO.out q _ hqm.1 hBw.out hqm.2).mono ?_
        rintro e w7 ⟨rfl, hb7⟩
        have HI7 : Hid (w7.ownsRow W6.heap.size 3 1 (.slice A2 k cap2) k (((ps.take k).map (outF 3 xs)).map (Value.int .i64))) := ownBelow HI.out hb7
        have HB7 : Hid (Below W6.heap.size W6 w7) := HB.out.trans (hb7.mono HB.out.size)
        clear hb7 c0 c1 c2 c3 c4 c5 hck KW hBw
        have hlen := HLEN.out
        have hsz7 := HB7.out.size
        obtain ⟨y, hy⟩ : ∃ y, outF 3 xs q = y := ⟨_, rfl⟩
        have HY := Lib.hid hy
        rw [hy]
        clear hy
        go_wp2_with (at_builtin; refine wpList_append_own _ rfl (.tmp 50) (.tmp 55) 29 rfl W6.heap.size 3 i0 _ 1 8 Try.underlying29 hi0 hza hzb hzc rfl (by decide) _ _ _ rfl (HI7.out.alloc _) ⟨w7.heap.size, 0, none⟩ 1 1 [.int .i64 y] rfl rfl (cell_one_new _ _ _) (by simp [Value.oneCell']) (by unfold maxLen; omega) (by omega) (by simp; omega) ?_)
        intro v' w8 hown' hgrow _
        have HF : Hid (w8.ownsRow W6.heap.size 3 1 v' (k + 1) (((ps.take (k + 1)).map (outF 3 xs)).map (Value.int .i64))) := by
          refine Lib.hid ?_
          rw [HSN.out, List.map_append, List.map_append]
          simpa [HY.out] using hown'
        have HG : Hid (Below W6.heap.size W6 w8) := (HB7.out.alloc hsz7 _).grown hgrow (by simp; omega) (fun z e => (HI7.out.lt z e).1)
        clear hown' hgrow
        go_wp2
        go_roundw
        case rel => exact ⟨k + 1, by omega, by go_num, HF, HG⟩
        case measure => simp [intOf]; omega
      · obtain rfl : k = ps.length := by omega
        go_wp2
        go_ret2
        have h1 := ownMono HI.out hzw
        rw [List.take_length] at h1
        exact OwnRes.mk' HRES.out rfl (by rw [List.length_map]; exact h1) (HB6.out.trans (HB.out.mono hzw))
  · have HRES : Hid (resOut (outF 3 xs) (ps, E) = ([], E)) := by show _ = _; simp [resOut, hE]
    go_wp2
    go_ret2
    exact OwnRes.mk' HRES.out rfl (World.ownsRow_nil _ _ _ _) HB6.out

end Go.Proofs.Ytepcciodhppbnaa
