import Derived.Test.YtjjflbnopphciaaGreatDoorXM
import Derived.Test.YtjjflbnopphciaaGreatDoorXN
import Derived.Deep.DeepCutAuto
import Derived.Test.YtjjflbnopphciaaGreatDoorXA
import Derived.Test.YtjjflbnopphciaaGreatDoorXH
namespace Go.Proofs.YtjjflbnopphciaaGreatDoor
open Go.RowKit

structure OkR (R : Nat → Int) (k : Nat) : Prop where
  bd : ∀ j, j < k → 1 ≤ R j ∧ R j ≤ 6
  near : ∀ j, j + 1 < k → -1 ≤ R (j + 1) - R j ∧ R (j + 1) - R j ≤ 1
theorem OkR.zero (R : Nat → Int) : OkR R 0 := ⟨fun j h => by omega, fun j h => by omega⟩
theorem OkR.next {R : Nat → Int} {k : Nat} (h : OkR R k) (h1 : 1 ≤ R k ∧ R k ≤ 6) (h2 : ∀ j, j + 1 = k → -1 ≤ R (j + 1) - R j ∧ R (j + 1) - R j ≤ 1) : OkR R (k + 1) := by
  refine ⟨fun j hj => ?_, fun j hj => ?_⟩
  · by_cases e : j = k
    · subst e; exact h1
    · exact h.bd j (by omega)
  · by_cases e : j + 1 = k
    · exact h2 j e
    · exact h.near j (by omega)
theorem OkR.all {R : Nat → Int} (h : OkR R 8) : Radii8 R := ⟨fun k hk => h.bd k hk, fun k hk => h.near k hk⟩

/-- An image of k rows of 13 pixels, no two of which share memory. -/
structure ImgM (W : World) (g5 : Nat) (p : Value) (G : Nat → Nat) (k : Nat) (rows : List (List Int)) : Prop where
  im : Bk W g5 41 #[p]
  own : W.ownsRow (g5 + 1) 22 1 p k ((List.range k).map fun j => Value.slice (some ⟨G j, 0, none⟩) 13 13)
  row : ∀ j, j < k → g5 + 1 ≤ G j ∧ Bk W (G j) 3 (iArr (rows.getD j [])) ∧ (rows.getD j []).length = 13
  inj : ∀ j, j < k → ∀ i, i < j → G i ≠ G j
theorem ownFar {w : World} {base t k : Nat} {x : Value} {xs : List Value} (ho : w.ownsRow base t 1 x k xs) (a : Addr) (u : Value) (ha : a.block < base) : (w.setCell a u).ownsRow base t 1 x k xs :=
  ho.kept (grownBy_setCellG w a u) (by
    cases hb : x.ownBlock with
    | none => exact .inl rfl
    | some g => exact .inr (by intro e; injection e with e; have := (ho.lt g hb).1; omega))
theorem ImgM.later {W W' : World} {g5 k : Nat} {p : Value} {G : Nat → Nat} {rows : List (List Int)} (h : ImgM W g5 p G k rows) (hb : Below W.heap.size W W') : ImgM W' g5 p G k rows :=
  ⟨h.im.later hb, ownLater h.own hb, fun j hj => ⟨(h.row j hj).1, (h.row j hj).2.1.later hb, (h.row j hj).2.2⟩, h.inj⟩
theorem ImgM.start {W : World} {g5 : Nat} (rows : List (List Int)) (h : Bk W g5 41 #[.slice none 0 0]) (G : Nat → Nat) : ImgM W g5 (.slice none 0 0) G 0 rows :=
  ⟨h, World.ownsRow_nil _ _ _ _, fun j hj => by omega, fun j hj => by omega⟩
theorem bk_ne {W : World} {g g' : Nat} {t t' : TypeId} {cs cs' : Array Value} (h : Bk W g t cs) (h' : W.heap[g']? = some (.cells cs' t' (0, 0))) (ht : t ≠ t') : g ≠ g' := by
  rintro rfl
  have := Option.some.inj (h.heap.symm.trans h')
  injection this with _ e _
  exact ht e
theorem ImgM.apart {W : World} {g5 k : Nat} {p : Value} {G : Nat → Nat} {rows : List (List Int)} (h : ImgM W g5 p G k rows) {g : Nat} {cs : Array Value} (hb : Bk W g 3 cs) : p.ownBlock ≠ some g := by
  rcases h.own.2 with ⟨rfl, _⟩ | ⟨g', cap', cur', rfl, _, hg', _⟩
  · intro e; cases e
  · intro e
    have e2 : g' = g := by simpa [Value.ownBlock] using e
    subst e2
    exact bk_ne hb hg' (by decide) rfl

theorem keepS {P Q : World → Prop} (h : ∀ W, Q W → P W) {W : World} (hq : Q W) : P W ∧ Q W := ⟨h W hq, hq⟩
theorem PT_len : ∀ i, i < 6 → (refRing (1 + i)).length ≤ 1000 := by decide +kernel
/-- The image once all rows lie there. -/
structure ImgD (W : World) (g5 gv cp : Nat) (G : Nat → Nat) (rows : List (List Int)) : Prop where
  im : Bk W g5 41 #[.slice (some ⟨gv, 0, none⟩) 13 cp]
  vec : ∀ j, j < 13 → W.cell? ⟨gv, j, none⟩ = some (.slice (some ⟨G j, 0, none⟩) 13 13)
  row : ∀ j, j < 13 → g5 + 1 ≤ G j ∧ Bk W (G j) 3 (iArr (rows.getD j [])) ∧ (rows.getD j []).length = 13
  inj : ∀ j, j < 13 → ∀ i, i < 13 → i ≠ j → G i ≠ G j
  lt : g5 < gv ∧ gv < W.heap.size
  ne : ∀ j, j < 13 → G j ≠ gv
theorem ImgD.later {W W' : World} {g5 gv cp : Nat} {G : Nat → Nat} {rows : List (List Int)} (h : ImgD W g5 gv cp G rows) (hb : Below W.heap.size W W') : ImgD W' g5 gv cp G rows :=
  ⟨h.im.later hb, fun j hj => (hb.cell h.lt.2).trans (h.vec j hj), fun j hj => ⟨(h.row j hj).1, (h.row j hj).2.1.later hb, (h.row j hj).2.2⟩, h.inj, ⟨h.lt.1, Nat.lt_of_lt_of_le h.lt.2 hb.size⟩, h.ne⟩
theorem ImgM.full {W : World} {g5 : Nat} {p : Value} {G : Nat → Nat} {rows : List (List Int)} (h : ImgM W g5 p G 13 rows) : ∃ gv cp, p = .slice (some ⟨gv, 0, none⟩) 13 cp ∧ ImgD W g5 gv cp G rows := by
  obtain ⟨gv, cp, rfl, h1, h2, h3⟩ := own_str h.own (by simp) (by omega)
  refine ⟨gv, cp, rfl, h.im, fun j hj => h3 j _ (by simp [hj]), h.row, fun j hj i hi hne e => ?_, ⟨h1, h2⟩, fun j hj e => ?_⟩
  · rcases Nat.lt_or_gt_of_ne hne with hlt | hgt
    · exact h.inj j hj i hlt e
    · exact h.inj i hi j hgt e.symm
  · exact h.apart (h.row j hj).2.1 (by rw [e]; rfl)
theorem ImgD.read {W : World} {g5 gv cp : Nat} {G : Nat → Nat} {rows : List (List Int)} (h : ImgD W g5 gv cp G rows) (hl : rows.length = 13) : RdGN W (some ⟨gv, 0, none⟩) 13 rows := by
  refine ⟨hl, fun _ => ⟨⟨gv, 0, none⟩, rfl, h.lt.2, fun j hj => ?_⟩⟩
  have hr := h.row j hj
  refine ⟨some ⟨G j, 0, none⟩, 13, 13, by rw [addOff]; exact h.vec j hj, rd_of_bk hr.2.1 hr.2.2, by omega, fun e => by cases e⟩
theorem ImgD.draw {W : World} {g5 gv cp : Nat} {G : Nat → Nat} {rows rows' : List (List Int)} (h : ImgD W g5 gv cp G rows) (Y X : Nat) (hY : Y < 13) (hr : rows' = rows.set Y ((rows.getD Y []).set X 0)) (hl : rows.length = 13) : ImgD (W.setCell ⟨G Y, X, none⟩ (.int .i64 0)) g5 gv cp G rows' := by
  have h5 : g5 ≠ G Y := by have := (h.row Y hY).1; omega
  refine ⟨h.im.far _ h5 _, fun j hj => ?_, fun j hj => ?_, h.inj, ⟨h.lt.1, ?_⟩, h.ne⟩
  · rw [World.cell?_of_block (heap_setCell_other W ⟨G Y, X, none⟩ gv _ (fun e => h.ne Y hY e.symm))]
    exact h.vec j hj
  · have hj2 := h.row j hj
    by_cases e : j = Y
    · subst e
      have e2 : rows'.getD j [] = (rows.getD j []).set X 0 := by
        rw [hr, List.getD_eq_getElem?_getD, List.getElem?_set_self (by omega)]; rfl
      rw [e2]
      refine ⟨hj2.1, ?_, by rw [List.length_set]; exact hj2.2.2⟩
      have := hj2.2.1.set_ X (.int .i64 0)
      rwa [iArr_set] at this
    · have e2 : rows'.getD j [] = rows.getD j [] := by
        rw [hr, List.getD_eq_getElem?_getD, List.getElem?_set_ne (fun e3 => e e3.symm), ← List.getD_eq_getElem?_getD]
      rw [e2]
      exact ⟨hj2.1, hj2.2.1.far _ (h.inj Y hY j hj e) _, hj2.2.2⟩
  · rw [World.size_setCell]
    exact h.lt.2

set_option maxRecDepth 100000 in
set_option maxHeartbeats 16000000 in
theorem tgf_main (R : Nat → Int) (L b c : Int) (w : World) (hl : LaidG w) (h0 : 1 ≤ L ∧ L ≤ 255) (h1 : 0 ≤ b ∧ b ≤ 1000) (h2 : -1 ≤ c ∧ c ≤ 6) (h7 : ¬ L ≤ 7 * b) :
    Calls Tryz.prog 4 #[.agg (gdRow R L b c)] w fun e w' => e = .returned (.bool true) ∧ Below w.heap.size w w' := by
  obtain ⟨w1, hw1⟩ : ∃ W, w.alloc (.cells (gdRow R L b c) 37) = W := ⟨_, rfl⟩
  have B1 : Hid (Below w.heap.size w w1) := by show Below _ _ _; rw [← hw1]; exact (Below.refl _ _).alloc (Nat.le_refl _) _
  have K1 : Hid (Bk w1 w.heap.size 37 (gdRow R L b c)) := by show Bk _ _ _ _; rw [← hw1]; exact Bk.new _ _ _
  have CS := Lib.hid (shown_any w1)
  have HW1 := Lib.hid hw1
  have HG0 := Lib.hid hl
  have HLB : Hid ((1 ≤ L ∧ L ≤ 255) ∧ (0 ≤ b ∧ b ≤ 1000) ∧ (-1 ≤ c ∧ c ≤ 6) ∧ ¬ L ≤ 7 * b) := ⟨h0, h1, h2, h7⟩
  have C0 : Hid (∀ W, Calls Tryz.prog 15 #[.int .i64 L, .int .i64 1, .int .i64 255] W fun e w' => e = .returned (.bool true) ∧ W = w') := fun W => by have h := within_any L 1 255 W; rw [fromB_one.2 h0] at h; exact h
  have C1 : Hid (∀ W, Calls Tryz.prog 15 #[.int .i64 b, .int .i64 0, .int .i64 1000] W fun e w' => e = .returned (.bool true) ∧ W = w') := fun W => by have h := within_any b 0 1000 W; rw [fromB_one.2 h1] at h; exact h
  have C2 : Hid (∀ W, Calls Tryz.prog 15 #[.int .i64 c, .int .i64 (-1), .int .i64 6] W fun e w' => e = .returned (.bool true) ∧ W = w') := fun W => by have h := within_any c (-1) 6 W; rw [fromB_one.2 h2] at h; exact h
  have ww : IntKind.i64.wrap (7 * b) = 7 * b := IntWalk.i64_in _ (by omega)
  clear hw1 hl
  go_enter Tryz.func4, Tryz.ntmps4
  go_wp2_with fail
  rw [show w.alloc (.cells #[.int .i64 (R 0), .int .i64 (R 1), .int .i64 (R 2), .int .i64 (R 3), .int .i64 (R 4), .int .i64 (R 5), .int .i64 (R 6), .int .i64 (R 7), .int .i64 L, .int .i64 b, .int .i64 c] 37) = w1 from HW1.out]
  refine CS.out.mono ?_
  rintro e w2 ⟨rfl, hb2⟩
  have B2 := Lib.hid (B1.out.trans (hb2.mono B1.out.size))
  have K2 : Hid (Bk w2 w.heap.size 37 (gdRow R L b c)) := K1.out.later hb2
  have c8 : w2.cell? ⟨w.heap.size, 8, none⟩ = some (.int .i64 L) := by rw [K2.out.cell]; rfl
  have c9 : w2.cell? ⟨w.heap.size, 9, none⟩ = some (.int .i64 b) := by rw [K2.out.cell]; rfl
  have c10 : w2.cell? ⟨w.heap.size, 10, none⟩ = some (.int .i64 c) := by rw [K2.out.cell]; rfl
  clear hb2 B1 K1 CS HW1
  have HP : Hid (∀ W, Below w2.heap.size w2 W → Bk W w.heap.size 37 (gdRow R L b c) ∧ Below w.heap.size w W ∧ LaidG W) := fun W hW => ⟨K2.out.below hW K2.out.lt, B2.out.trans (hW.mono B2.out.size), HG0.out.later (B2.out.trans (hW.mono B2.out.size))⟩
  go_wp2_with (first | (go_at_call 15; (with_reducible refine (C0.out _).mono ?_); rintro e w' ⟨rfl, rfl⟩) | (go_at_call 15; (with_reducible refine (C1.out _).mono ?_); rintro e w' ⟨rfl, rfl⟩) | (go_at_call 15; (with_reducible refine (C2.out _).mono ?_); rintro e w' ⟨rfl, rfl⟩) | fail)
  try rw [show decide (L ≤ 7 * b) = false from decide_eq_false HLB.out.2.2.2]
  clear c8 c9 c10 h0 h1 h2 h7 ww C0 C1 C2 K2 B2
  go_loopw [3] (fun i wr => ∃ k : Nat, k ≤ 8 ∧ i = .int .i64 (k : Int) ∧ Hid (OkR R k) ∧ Hid (Below w2.heap.size w2 wr)) (fun i _ => 8 - (intOf i).toNat)
  case atStart => exact ⟨0, Nat.zero_le _, rfl, OkR.zero R, Below.refl _ _⟩
  case round =>
    obtain ⟨k, hk, rfl, HO, HB⟩ := hrel
    have hbk := (HP.out _ HB.out).1
    by_cases hlt : k < 8
    · have hltI : (k : Int) < 8 := by omega
      have ck : wr.cell? ⟨w.heap.size, k, none⟩ = some (.int .i64 (R k)) := by rw [hbk.cell]; exact gdRow_at R L b c k hlt
      have C1 := Lib.hid (fun W => within_any (R k) 1 6 W)
      obtain ⟨rk, hrk⟩ : ∃ r, R k = r := ⟨_, rfl⟩
      rw [hrk] at ck C1
      by_cases hin : 1 ≤ rk ∧ rk ≤ 6
      · rw [fromB_one.2 hin] at C1
        by_cases hk0 : k = 0
        · have HN : Hid (OkR R (k + 1)) := HO.out.next (by rw [hrk]; exact hin) (fun j hj => by omega)
          subst hk0
          have hg : decide ((0 : Int) < ((0 : Nat) : Int)) = false := by decide
          have hB : Hid (∀ q, Below w2.heap.size w2 (wr.drewN q)) := fun q => HB.out.trans ((below_dN wr q).mono HB.out.size)
          clear hrk hin HO hbk
          go_wp2_with fail
          go_quiet ((first | (go_at_call 15; with_reducible exact quietG (C1.out _))))
          go_wp2
          go_roundw
          case rel => exact ⟨0 + 1, by omega, by go_num, HN.out, hB.out _⟩
          case measure => first | (simp [intOf]; done) | (simp [intOf]; omega)
        · obtain ⟨q, hq⟩ : ∃ q, k = q + 1 := ⟨k - 1, by omega⟩
          have cq : wr.cell? ⟨w.heap.size, q, none⟩ = some (.int .i64 (R q)) := by rw [hbk.cell]; exact gdRow_at R L b c q (by omega)
          have hqb := HO.out.bd q (by omega)
          obtain ⟨rq, hrq⟩ : ∃ r, R q = r := ⟨_, rfl⟩
          rw [hrq] at cq hqb
          have C2 := Lib.hid (fun W => within_any (rk - rq) (-1) 1 W)
          have hg : decide ((0 : Int) < (k : Int)) = true := decide_eq_true (by omega)
          have hgp : (0 : Int) < (k : Int) := by omega
          have hgn : 0 < k := by omega
          have hgd : decide (0 < k) = true := decide_eq_true hgn
          have ww1 : IntKind.i64.wrap ((k : Int) - 1) = (q : Int) := by rw [show (k : Int) - 1 = (q : Int) by omega]; exact IntWalk.i64_in _ (by omega)
          have ww2 : IntKind.i64.wrap (rk - rq) = rk - rq := IntWalk.i64_in _ (by omega)
          have hq8 : (q : Int) < 8 := by omega
          have hqn : q < 8 := by omega
          have hq0 : (0 : Int) ≤ (q : Int) := by omega
          have hB : Hid (∀ q, Below w2.heap.size w2 (wr.drewN q)) := fun q => HB.out.trans ((below_dN wr q).mono HB.out.size)
          by_cases hnr : -1 ≤ rk - rq ∧ rk - rq ≤ 1
          · rw [fromB_one.2 hnr] at C2
            have hnx : ∀ j, j + 1 = k → -1 ≤ R (j + 1) - R j ∧ R (j + 1) - R j ≤ 1 := by
              intro j hj
              obtain rfl : j = q := by omega
              rw [← hq, hrk, hrq]; exact hnr
            have HN : Hid (OkR R (k + 1)) := HO.out.next (by rw [hrk]; exact hin) hnx
            clear hrk hin HO hbk hrq hnr hq hqb hnx
            go_wp2_with fail
            go_quiet ((first | (go_at_call 15; with_reducible exact quietG (C1.out _)) | (go_at_call 15; with_reducible exact quietG (C2.out _))))
            go_wp2
            go_roundw
            case rel => exact ⟨k + 1, by omega, by go_num, HN.out, hB.out _⟩
            case measure => simp [intOf]; omega
          · rw [notFrom hnr] at C2
            clear hrk hin HO hbk hrq hnr hq hqb
            go_wp2_with fail
            go_quiet ((first | (go_at_call 15; with_reducible exact quietG (C1.out _)) | (go_at_call 15; with_reducible exact quietG (C2.out _))))
            go_wp2
            go_ret
            exact ⟨rfl, (HP.out _ (hB.out _)).2.1⟩
      · rw [notFrom hin] at C1
        have hB : Hid (∀ q, Below w2.heap.size w2 (wr.drewN q)) := fun q => HB.out.trans ((below_dN wr q).mono HB.out.size)
        clear hrk hin HO hbk
        go_wp2_with fail
        go_quiet ((first | (go_at_call 15; with_reducible exact quietG (C1.out _))))
        go_wp2
        go_ret
        exact ⟨rfl, (HP.out _ (hB.out _)).2.1⟩
    · obtain rfl : k = 8 := by omega
      have HRR : Hid (Radii8 R) := HO.out.all
      obtain ⟨w3, hw3⟩ : ∃ W, W = wr := ⟨_, rfl⟩
      subst hw3
      have HW : Hid (∀ W, Below w3.heap.size w3 W → Bk W w.heap.size 37 (gdRow R L b c) ∧ Below w.heap.size w W ∧ LaidG W) := fun W hW => HP.out W (HB.out.trans (hW.mono HB.out.size))
      have hbase : w.heap.size < w3.heap.size := hbk.lt
      clear hbk HO HP hlt HB HG0
      have hmi := make_ints 13 (by omega)
      rw [show ((13 : Nat) : Int) = 13 from rfl] at hmi
      obtain ⟨z13, hz13⟩ : ∃ z : List Int, List.replicate 13 0 = z := ⟨_, rfl⟩
      rw [hz13] at hmi
      have HZ13 := Lib.hid hz13
      clear hz13
      obtain ⟨i0, hi0, hz0, hz1, hz2⟩ := info_parts sliceInfo
      go_upto_region 11 with (fail)
      try rw [show ((8 : Nat) : Int) = 8 from rfl]
      obtain ⟨W4, hW4⟩ : ∃ W, w3.alloc (.cells #[.slice none 0 0] 41) = W := ⟨_, rfl⟩
      have HT4 : Hid (Bk W4 w3.heap.size 41 #[.slice none 0 0]) := by rw [← hW4]; exact Bk.new _ _ _
      have HB4 : Hid (Below w3.heap.size w3 W4) := by rw [← hW4]; exact (Below.refl _ _).alloc (Nat.le_refl _) _
      rw [hW4]
      obtain ⟨g5, hg5⟩ : ∃ g, w3.heap.size = g := ⟨_, rfl⟩
      rw [hg5] at HT4 HB4 HW hbase ⊢
      clear hW4 hg5
      go_wp2
      go_loopw [5] (fun i wr => ∃ k : Nat, k ≤ 13 ∧ i = .int .i64 (k : Int) ∧ Hid (∃ p G, ImgM wr g5 p G k (imgW R L c 0)) ∧ Hid (Below g5 w3 wr)) (fun i _ => 13 - (intOf i).toNat)
      case atStart => exact ⟨0, Nat.zero_le _, rfl, ⟨_, fun _ => 0, ImgM.start _ HT4.out _⟩, HB4.out⟩
      case round =>
        clear HT4 HB4
        obtain ⟨k, hk, rfl, HP, HX⟩ := hrel
        obtain ⟨wo, hwo⟩ : ∃ W, W = wr := ⟨_, rfl⟩
        subst hwo
        obtain ⟨p, G, him⟩ := HP.out
        have HI := Lib.hid him
        have hg5l : g5 < wo.heap.size := him.im.lt
        clear HP him
        by_cases hlt : k < 13
        · have hkI : (k : Int) < 13 := by omega
          go_upto_region 15 with (fail)
          obtain ⟨W5, hW5⟩ : ∃ W, wo.alloc (.cells (iArr z13) 3) = W := ⟨_, rfl⟩
          have HR5 : Hid (Bk W5 wo.heap.size 3 (iArr (padR (List.replicate 13 L) 0 13))) := by rw [← hW5, padR_zero, HZ13.out]; exact Bk.new _ _ _
          have HB5 : Hid (Below wo.heap.size wo W5) := by rw [← hW5]; exact (Below.refl _ _).alloc (Nat.le_refl _) _
          rw [hW5]
          obtain ⟨gr, hgr⟩ : ∃ g, wo.heap.size = g := ⟨_, rfl⟩
          rw [hgr] at HR5 HB5 hg5l ⊢
          have HGR := Lib.hid hgr
          clear hW5 hgr
          go_wp2
          go_loopw [7] (fun i wq => ∃ x : Nat, x ≤ 13 ∧ i = .int .i64 (x : Int) ∧ Hid (Bk wq gr 3 (iArr (padR (List.replicate 13 L) x 13))) ∧ Hid (Below gr wo wq)) (fun i _ => 13 - (intOf i).toNat)
          case atStart => exact ⟨0, Nat.zero_le _, rfl, HR5.out, HB5.out⟩
          case round =>
            clear HR5 HB5
            obtain ⟨x, hx, rfl, HR, HB⟩ := hrel
            by_cases hxl : x < 13
            · have hxI : (x : Int) < 13 := by omega
              have hp0 := (HW.out _ (HX.out.trans (HB.out.mono (Nat.le_of_lt hg5l)))).1
              have c8 : wr.cell? ⟨w.heap.size, 8, none⟩ = some (.int .i64 L) := by rw [hp0.cell]; rfl
              have hcC : wr.cell? ⟨gr, x, none⟩ = some (.int .i64 ((padR (List.replicate 13 L) x 13).getD x 0)) := by rw [HR.out.cell]; exact iArr_at _ _ (by rw [padR_length]; exact hxl)
              have hfC : wr.frozen? ⟨gr, x, none⟩ = false := HR.out.frozen x
              obtain ⟨oo, hoo⟩ : ∃ z, (padR (List.replicate 13 L) x 13).getD x 0 = z := ⟨_, rfl⟩
              rw [hoo] at hcC
              have HTV : Hid ((List.replicate 13 L).getD x 0 = L) := by
                show _ = _
                rw [List.getD_eq_getElem?_getD, List.getElem?_replicate, if_pos hxl]; rfl
              clear hoo hp0
              go_upto_region 17 with (fail)
              obtain ⟨W6, hW6⟩ : ∃ W, wr.setCell ⟨gr, x, none⟩ (.int .i64 L) = W := ⟨_, rfl⟩
              have HR6 : Hid (Bk W6 gr 3 (iArr (padR (List.replicate 13 L) (x + 1) 13))) := by
                have := HR.out.set_ x (.int .i64 L)
                rw [iArr_set] at this
                have e := padR_set (List.replicate 13 L) x 13
                rw [HTV.out] at e
                rw [e, hW6] at this
                exact this
              have HB6 : Hid (Below gr wo W6) := by rw [← hW6]; exact HB.out.setCell (Nat.le_refl _) _
              rw [hW6]
              clear hW6 HR HB hcC hfC c8
              go_wp2
              go_roundw
              case rel => exact ⟨x + 1, by omega, by go_num, HR6.out, HB6.out⟩
              case measure => simp [intOf]; omega
            · obtain rfl : x = 13 := by omega
              have hbo : Below wo.heap.size wo wr := by rw [HGR.out]; exact HB.out
              have HI2 := Lib.hid (HI.out.later hbo)
              have HROW : Hid (Bk wr gr 3 (iArr ((imgW R L c 0).getD k []))) := by
                show Bk _ _ _ _
                have h1 := HR.out
                rw [padR_all _ _ (by simp)] at h1
                rw [imgW_at R L c 0 k hlt, rowW_zero]
                exact h1
              have HBo : Hid (Below g5 w3 wr) := Lib.hid (HX.out.trans (HB.out.mono (Nat.le_of_lt hg5l)))
              have HAP := Lib.hid (HI2.out.apart HROW.out)
              have HNJ : Hid (∀ i, i < k → G i ≠ gr) := fun i hi => by
                have h1 := (HI.out.row i hi).2.1.lt
                have h2 := HGR.out
                omega
              have t0 : wr.cell? ⟨g5, 0, none⟩ = some p := by rw [HI2.out.im.cell]; rfl
              have hlb : g5 + 1 ≤ wr.heap.size := HI2.out.im.lt
              clear hbo HR HI HX
              go_wp2_with (at_builtin; refine wpList_append_own _ rfl (.tmp 101) (.tmp 103) 39 rfl (g5 + 1) 22 i0 _ 1 24 Tryz.underlying39 hi0 hz0 hz1 hz2 rfl (by decide) _ _ _ rfl (HI2.out.own.alloc _) ⟨wr.heap.size, 0, none⟩ 1 1 [_] rfl rfl (cell_one_new _ _ _) (by simp [Value.oneCell']) (by unfold maxLen; omega) (by omega) (by simp; omega) ?_)
              intro v' w4 hown' hgrow _
              obtain ⟨g', cap', rfl⟩ := ownsRow_succ hown'
              have hT4 : Bk w4 g5 41 #[p] := (HI2.out.im.alloc _).grown hgrow (fun e => by have := (HI2.out.own.lt _ e.symm).1; omega)
              have HFIN : Hid (ImgM (w4.setCell ⟨g5, 0, none⟩ (.slice (some ⟨g', 0, none⟩) (k + 1) cap')) g5 (.slice (some ⟨g', 0, none⟩) (k + 1) cap') (fun j => if j = k then gr else G j) (k + 1) (imgW R L c 0) ∧ Below g5 w3 (w4.setCell ⟨g5, 0, none⟩ (.slice (some ⟨g', 0, none⟩) (k + 1) cap'))) := by
                refine ⟨⟨hT4.set_ 0 _, ?_, fun j hj => ?_, fun j hj i hi => ?_⟩, (((HBo.out.alloc (by omega) _).grown hgrow (by simp; omega) (fun z e => by have := (HI2.out.own.lt z e).1; omega))).setCell (Nat.le_refl _) _⟩
                · have e : (List.range (k + 1)).map (fun j => Value.slice (some ⟨if j = k then gr else G j, 0, none⟩) 13 13) = ((List.range k).map fun j => Value.slice (some ⟨G j, 0, none⟩) 13 13) ++ [Value.slice (some ⟨gr, 0, none⟩) 13 13] := by
                    rw [List.range_succ, List.map_append]
                    congr 1
                    · apply List.map_congr_left
                      intro j hj
                      rw [if_neg (by have := List.mem_range.1 hj; omega)]
                    · simp
                  rw [e]
                  exact ownFar hown' _ _ (Nat.lt_succ_self g5)
                · by_cases e : j = k
                  · subst e
                    rw [if_pos rfl]
                    refine ⟨by omega, ((HROW.out.alloc _).grown hgrow (fun e => HAP.out e.symm)).far _ (by show gr ≠ g5; omega) _, ?_⟩
                    rw [imgW_at R L c 0 _ hlt, rowW_length]
                  · rw [if_neg e]
                    have h1 := HI2.out.row j (by omega)
                    exact ⟨h1.1, ((h1.2.1.alloc _).grown hgrow (fun e => HI2.out.apart h1.2.1 e.symm)).far _ (by have := h1.1; show G j ≠ g5; omega) _, h1.2.2⟩
                · by_cases e : j = k
                  · subst e
                    rw [if_pos rfl, if_neg (by omega)]
                    exact HNJ.out i hi
                  · rw [if_neg e, if_neg (by omega)]
                    exact HI2.out.inj j (by omega) i hi
              have t4 : w4.cell? ⟨g5, 0, none⟩ = some p := by rw [hT4.cell]; rfl
              have f4 : w4.frozen? ⟨g5, 0, none⟩ = false := hT4.frozen 0
              clear hown' hgrow hT4 HI2 HROW HAP HNJ t0 HBo
              go_wp2
              go_roundw
              case rel => exact ⟨k + 1, by omega, by go_num, ⟨_, _, HFIN.out.1⟩, HFIN.out.2⟩
              case measure => simp [intOf]; omega
        · obtain rfl : k = 13 := by omega
          obtain ⟨gv, cp, rfl, hD⟩ := HI.out.full
          have HD0 := Lib.hid hD
          have HX0 : Hid (Below g5 w3 wo) := HX
          obtain ⟨w6, hw6⟩ : ∃ W, W = wo := ⟨_, rfl⟩
          subst hw6
          clear hD HX HI hmi hlt HZ13
          rw [show ((13 : Nat) : Int) = 13 from rfl]
          go_wp2
          go_loopw [8] (fun i wr => ∃ k : Nat, k ≤ 8 ∧ i = .int .i64 (k : Int) ∧ Hid (ImgD wr g5 gv cp G (imgW R L c k)) ∧ Hid (Below g5 w3 wr)) (fun i _ => 8 - (intOf i).toNat)
          case atStart => exact ⟨0, Nat.zero_le _, rfl, HD0.out, HX0.out⟩
          case round =>
            clear HD0 HX0
            obtain ⟨k, hk, rfl, HI, HX⟩ := hrel
            have hbk := (HW.out _ HX.out).1
            by_cases hlt : k < 8
            · have hltI : (k : Int) < 8 := by omega
              have c10 : wr.cell? ⟨w.heap.size, 10, none⟩ = some (.int .i64 c) := by rw [hbk.cell]; rfl
              by_cases hkc : (k : Int) = c
              · have hkb : ((k : Int) != c) = false := by simpa using hkc
                have HN : Hid (ImgD wr g5 gv cp G (imgW R L c (k + 1))) := by show ImgD _ _ _ _ _ _; rw [imgW_skip hkc]; exact HI.out
                clear hkc HI hbk
                go_wp2
                go_roundw
                case rel => exact ⟨k + 1, by omega, by go_num, HN.out, HX.out⟩
                case measure => simp [intOf]; omega
              · have hkb : ((k : Int) != c) = true := by simpa using hkc
                obtain ⟨i, hi, hri, hrt⟩ := HRR.out.nat hlt
                obtain ⟨r, hr⟩ : ∃ r, 1 + i = r := ⟨_, rfl⟩
                have hpt := PT_bd k hlt i hi
                have hrl := PT_len i hi
                rw [hr] at hri hrt hpt hrl
                have CR := Lib.hid (fun W => refRing_any r W (by omega) (by omega))
                obtain ⟨m, hm⟩ : ∃ m, r * k = m := ⟨_, rfl⟩
                have hmr := hpt.1
                rw [hm] at hmr
                obtain ⟨X, hX⟩ : ∃ X : Nat, (X : Int) - 6 = (PT r k).1 := ⟨(6 + (PT r k).1).toNat, by omega⟩
                obtain ⟨Y, hY⟩ : ∃ Y : Nat, (Y : Int) - 6 = (PT r k).2 := ⟨(6 + (PT r k).2).toNat, by omega⟩
                have HPX : Hid (((refRing r).getD m (0, 0)).1 = (X : Int) - 6) := by show _ = _; rw [hX, ← hm]; rfl
                have HPY : Hid (((refRing r).getD m (0, 0)).2 = (Y : Int) - 6) := by show _ = _; rw [hY, ← hm]; rfl
                have hXY : X < 13 ∧ Y < 13 := by omega
                have HPT : Hid (PT (R k).toNat k = ((X : Int) - 6, (Y : Int) - 6)) := by show _ = _; rw [hrt, hX, hY]
                have wm : IntKind.i64.wrap ((r : Int) * (k : Int)) = (m : Int) := by
                  rw [show (r : Int) * (k : Int) = (m : Int) by rw [← hm]; push_cast; rfl]
                  exact IntWalk.i64_in _ (by omega)
                have hg5r : g5 ≤ wr.heap.size := by have := HI.out.lt; omega
                have HS : Hid (∀ W, Below wr.heap.size wr W → W.cell? ⟨w.heap.size, k, none⟩ = some (.int .i64 (r : Int))) := fun W hW => by
                  rw [(HW.out _ (HX.out.trans (hW.mono hg5r))).1.cell, gdRow_at R L b c k hlt, hri]
                have ck := HS.out _ (Below.refl _ _)
                have hmI : (m : Int) < ((refRing r).length : Int) := by omega
                obtain ⟨rn, hrn⟩ : ∃ n, (refRing r).length = n := ⟨_, rfl⟩
                rw [hrn] at hmI hmr hrl
                have HRN := Lib.hid hrn
                clear hri hrt hpt hX hY hm hr hrn
                go_upto_region 24 with fail
                go_cut [9] (fun s9 wx => ∃ gq : Nat, s9 = .pointer (some ⟨gq, 0, none⟩) ∧ wr.heap.size ≤ gq ∧ Hid (Bk wx gq 43 #[.int .i64 ((X : Int) - 6), .int .i64 ((Y : Int) - 6)]) ∧ Hid (Below wr.heap.size wr wx))
                case first =>
                  refine wp_region_held_drew (S := (fun w' : World => w'.cell? ⟨w.heap.size, k, none⟩ = some (.int .i64 (r : Int)) ∧ Below wr.heap.size wr w')) (by kernel_rfl) ?_ ?_
                  · exact ⟨HS.out _ (Below.refl _ _).drew, (Below.refl _ _).drew⟩
                  intro hHeld
                  refine wpAnyH_take (i := 0) (v := ?_) rfl (by kernel_rfl) (by kernel_rfl) (by kernel_rfl) (fun _ _ _ h => h) (Or.inl ⟨by rfl, ?_⟩) (by assumption) ?_
                  rotate_left
                  · intro w hSw; (try dsimp only at hSw); go_simp; (try (with_reducible rfl))
                  try simp only [List.getElem_toArray, List.getElem_cons_succ, List.getElem_cons_zero, Act.put, List.setIfInBounds_toArray, List.set_cons_zero, List.set_cons_succ]
                  refine wpAnyH_take (i := 1) (v := ?_) rfl (by kernel_rfl) (by kernel_rfl) (by kernel_rfl) (fun _ _ _ h => h) (Or.inl ⟨by rfl, ?_⟩) (by assumption) ?_
                  rotate_left
                  · intro w hSw; (try dsimp only at hSw); go_simp; (try (with_reducible rfl))
                  try simp only [List.getElem_toArray, List.getElem_cons_succ, List.getElem_cons_zero, Act.put, List.setIfInBounds_toArray, List.set_cons_zero, List.set_cons_succ]
                  refine wpAnyH_take (i := 2) (v := ?_) rfl (by kernel_rfl) (by kernel_rfl) (by kernel_rfl) (fun _ _ _ h => h) (Or.inl ⟨by rfl, ?_⟩) (by assumption) ?_
                  rotate_left
                  · intro w hSw; (try dsimp only at hSw); go_simp; (try (with_reducible rfl))
                  try simp only [List.getElem_toArray, List.getElem_cons_succ, List.getElem_cons_zero, Act.put, List.setIfInBounds_toArray, List.set_cons_zero, List.set_cons_succ]
                  refine wpAnyH_take (i := 3) (v := ?_) rfl (by kernel_rfl) (by kernel_rfl) (by kernel_rfl) (fun _ _ _ h => h) (Or.inl ⟨by rfl, ?_⟩) (by assumption) ?_
                  rotate_left
                  · intro w hSw; (try dsimp only at hSw); go_simp; (try (with_reducible rfl))
                  try simp only [List.getElem_toArray, List.getElem_cons_succ, List.getElem_cons_zero, Act.put, List.setIfInBounds_toArray, List.set_cons_zero, List.set_cons_succ]
                  refine wpAnyH_take (i := 5) (v := ?_) rfl (by kernel_rfl) (by kernel_rfl) (by kernel_rfl) (fun _ _ _ h => h) (Or.inl ⟨by rfl, ?_⟩) (by assumption) ?_
                  rotate_left
                  · intro w hSw; (try dsimp only at hSw); go_simp; (try (with_reducible rfl))
                  try simp only [List.getElem_toArray, List.getElem_cons_succ, List.getElem_cons_zero, Act.put, List.setIfInBounds_toArray, List.set_cons_zero, List.set_cons_succ]
                  refine wpAnyH_take (i := 6) (v := ?_) rfl (by kernel_rfl) (by kernel_rfl) (by kernel_rfl) (fun _ _ _ h => h) (Or.inl ⟨by rfl, ?_⟩) (by assumption) ?_
                  rotate_left
                  · intro w hSw; (try dsimp only at hSw); go_simp; (try (with_reducible rfl))
                  try simp only [List.getElem_toArray, List.getElem_cons_succ, List.getElem_cons_zero, Act.put, List.setIfInBounds_toArray, List.set_cons_zero, List.set_cons_succ]
                  refine wpAnyH_take (i := 7) (v := ?_) rfl (by kernel_rfl) (by kernel_rfl) (by kernel_rfl) (fun _ _ _ h => h) (Or.inl ⟨by rfl, ?_⟩) (by assumption) ?_
                  rotate_left
                  · intro w hSw; (try dsimp only at hSw); go_simp; (try (with_reducible rfl))
                  try simp only [List.getElem_toArray, List.getElem_cons_succ, List.getElem_cons_zero, Act.put, List.setIfInBounds_toArray, List.set_cons_zero, List.set_cons_succ]
                  refine wpAnyH_take (i := 8) (v := ?_) rfl (by kernel_rfl) (by kernel_rfl) (by kernel_rfl) (fun _ _ _ h => h) (Or.inl ⟨by rfl, ?_⟩) (by assumption) ?_
                  rotate_left
                  · intro w hSw; (try dsimp only at hSw); go_simp; (try (with_reducible rfl))
                  try simp only [List.getElem_toArray, List.getElem_cons_succ, List.getElem_cons_zero, Act.put, List.setIfInBounds_toArray, List.set_cons_zero, List.set_cons_succ]
                  refine wpAnyH_take (i := 9) (v := ?_) rfl (by kernel_rfl) (by kernel_rfl) (by kernel_rfl) (fun _ _ _ h => h) (Or.inl ⟨by rfl, ?_⟩) (by assumption) ?_
                  rotate_left
                  · intro w hSw; (try dsimp only at hSw); go_simp; (try (with_reducible rfl))
                  try simp only [List.getElem_toArray, List.getElem_cons_succ, List.getElem_cons_zero, Act.put, List.setIfInBounds_toArray, List.set_cons_zero, List.set_cons_succ]
                  refine wpAnyH_take (i := 10) (v := ?_) rfl (by kernel_rfl) (by kernel_rfl) (by kernel_rfl) (fun _ _ _ h => h) (Or.inl ⟨by rfl, ?_⟩) (by assumption) ?_
                  rotate_left
                  · intro w hSw; (try dsimp only at hSw); go_simp; (try (with_reducible rfl))
                  try simp only [List.getElem_toArray, List.getElem_cons_succ, List.getElem_cons_zero, Act.put, List.setIfInBounds_toArray, List.set_cons_zero, List.set_cons_succ]
                  refine wpAnyH_ready (rs := [4, 13]) (by kernel_rfl) (by simp) ?_
                  refine AllReadyH.cons rfl (fun K hK => ?_) (AllReadyH.cons rfl (fun K hK => ?_) AllReadyH.nil)
                  · go_simp
                    go_at_call 16
                    refine (CR.out _).mono ?_
                    rintro e wz ⟨⟨v, rfl, hv⟩, hb⟩
                    have hbz : Below wr.heap.size wr wz := (Below.refl _ _).drew.trans (hb.mono (Nat.le_refl _))
                    rw [HRN.out] at hv
                    obtain ⟨cr, gr, rfl, hrd⟩ := own_pts hv HRN.out (by omega)
                    obtain ⟨hx1, hy1⟩ := hrd.2.2 m (by have := HRN.out; omega)
                    rw [HPX.out] at hx1
                    rw [HPY.out] at hy1
                    have HBZ := Lib.hid hbz
                    clear hv hb hrd hbz
                    go_wp2_with fail
                    refine hK.out _ _ ?_ (fun hHeld => ?_)
                    · clear hK K; exact ⟨HS.out _ HBZ.out, HBZ.out⟩
                    clear hK K
                    try simp only [List.getElem_toArray, List.getElem_cons_succ, List.getElem_cons_zero, Act.put, List.setIfInBounds_toArray, List.set_cons_zero, List.set_cons_succ]
                    refine wpAnyH_take (i := 11) (v := ?_) rfl (by kernel_rfl) (by kernel_rfl) (by kernel_rfl) (fun _ _ _ h => h) (Or.inl ⟨by rfl, ?_⟩) (by assumption) ?_
                    rotate_left
                    · intro w hSw; (try dsimp only at hSw); go_simp; (try (with_reducible rfl))
                    try simp only [List.getElem_toArray, List.getElem_cons_succ, List.getElem_cons_zero, Act.put, List.setIfInBounds_toArray, List.set_cons_zero, List.set_cons_succ]
                    refine wpAnyH_ready (rs := [12, 13]) (by kernel_rfl) (by simp) ?_
                    refine AllReadyH.cons rfl (fun K hK => ?_) (AllReadyH.cons rfl (fun K hK => ?_) AllReadyH.nil)
                    · go_simp
                      refine hK.out _ _ ?_ (fun hHeld => ?_)
                      · clear hK K; exact ⟨HS.out _ HBZ.out, HBZ.out⟩
                      clear hK K
                      try simp only [List.getElem_toArray, List.getElem_cons_succ, List.getElem_cons_zero, Act.put, List.setIfInBounds_toArray, List.set_cons_zero, List.set_cons_succ]
                      refine wpAnyH_ready (rs := [13]) (by kernel_rfl) (by simp) ?_
                      refine AllReadyH.cons rfl (fun K hK => ?_) AllReadyH.nil
                      go_simp
                      refine hK.out _ _ ?_ (fun hHeld => ?_)
                      · clear hK K; refine keepS HS.out ?_; first | exact (HBZ.out.alloc HBZ.out.size _)
                      clear hK K
                      try simp only [List.getElem_toArray, List.getElem_cons_succ, List.getElem_cons_zero, Act.put, List.setIfInBounds_toArray, List.set_cons_zero, List.set_cons_succ]
                      refine wpAnyH_ready (rs := [14]) (by kernel_rfl) (by simp) ?_
                      refine AllReadyH.cons rfl (fun K hK => ?_) AllReadyH.nil
                      go_simp
                      refine hK.out _ _ ?_ (fun hHeld => ?_)
                      · clear hK K; refine keepS HS.out ?_; first | exact (HBZ.out.alloc HBZ.out.size _) | exact (((HBZ.out.alloc HBZ.out.size _).setCell HBZ.out.size _).setCell HBZ.out.size _)
                      clear hK K
                      try simp only [List.getElem_toArray, List.getElem_cons_succ, List.getElem_cons_zero, Act.put, List.setIfInBounds_toArray, List.set_cons_zero, List.set_cons_succ]
                      refine wpAnyH_done (by kernel_rfl) ?_ _
                      go_wp2_with fail
                      go_meet
                      refine ⟨wz.heap.size, rfl, ?_, Lib.hid ?_, Lib.hid ?_⟩
                      · first | exact HBZ.out.size | exact Nat.le_refl _
                      · first | exact Bk.new _ _ _ | exact ((Bk.new _ _ _).set_ 0 _).set_ 1 _
                      · first | exact (HBZ.out.alloc HBZ.out.size _) | exact (((HBZ.out.alloc HBZ.out.size _).setCell HBZ.out.size _).setCell HBZ.out.size _)
                    · go_simp
                      refine hK.out _ _ ?_ (fun hHeld => ?_)
                      · clear hK K; refine keepS HS.out ?_; first | exact (HBZ.out.alloc HBZ.out.size _)
                      clear hK K
                      try simp only [List.getElem_toArray, List.getElem_cons_succ, List.getElem_cons_zero, Act.put, List.setIfInBounds_toArray, List.set_cons_zero, List.set_cons_succ]
                      have hx2 := cellA (.cells #[.int .i64 0, .int .i64 0] 43) hx1
                      have hy2 := cellA (.cells #[.int .i64 0, .int .i64 0] 43) hy1
                      refine wpAnyH_ready (rs := [12]) (by kernel_rfl) (by simp) ?_
                      refine AllReadyH.cons rfl (fun K hK => ?_) AllReadyH.nil
                      go_simp
                      refine hK.out _ _ ?_ (fun hHeld => ?_)
                      · clear hK K; refine keepS HS.out ?_; first | exact (HBZ.out.alloc HBZ.out.size _)
                      clear hK K
                      try simp only [List.getElem_toArray, List.getElem_cons_succ, List.getElem_cons_zero, Act.put, List.setIfInBounds_toArray, List.set_cons_zero, List.set_cons_succ]
                      refine wpAnyH_ready (rs := [14]) (by kernel_rfl) (by simp) ?_
                      refine AllReadyH.cons rfl (fun K hK => ?_) AllReadyH.nil
                      go_simp
                      refine hK.out _ _ ?_ (fun hHeld => ?_)
                      · clear hK K; refine keepS HS.out ?_; first | exact (HBZ.out.alloc HBZ.out.size _) | exact (((HBZ.out.alloc HBZ.out.size _).setCell HBZ.out.size _).setCell HBZ.out.size _)
                      clear hK K
                      try simp only [List.getElem_toArray, List.getElem_cons_succ, List.getElem_cons_zero, Act.put, List.setIfInBounds_toArray, List.set_cons_zero, List.set_cons_succ]
                      refine wpAnyH_done (by kernel_rfl) ?_ _
                      go_wp2_with fail
                      go_meet
                      refine ⟨wz.heap.size, rfl, ?_, Lib.hid ?_, Lib.hid ?_⟩
                      · first | exact HBZ.out.size | exact Nat.le_refl _
                      · first | exact Bk.new _ _ _ | exact ((Bk.new _ _ _).set_ 0 _).set_ 1 _
                      · first | exact (HBZ.out.alloc HBZ.out.size _) | exact (((HBZ.out.alloc HBZ.out.size _).setCell HBZ.out.size _).setCell HBZ.out.size _)
                  · go_simp
                    refine hK.out _ _ ?_ (fun hHeld => ?_)
                    · clear hK K; refine keepS HS.out ?_; first | exact ((Below.refl wr.heap.size wr).alloc (Nat.le_refl _) _).drew
                    clear hK K
                    try simp only [List.getElem_toArray, List.getElem_cons_succ, List.getElem_cons_zero, Act.put, List.setIfInBounds_toArray, List.set_cons_zero, List.set_cons_succ]
                    refine wpAnyH_ready (rs := [4]) (by kernel_rfl) (by simp) ?_
                    refine AllReadyH.cons rfl (fun K hK => ?_) AllReadyH.nil
                    go_simp
                    go_at_call 16
                    refine (CR.out _).mono ?_
                    rintro e wz ⟨⟨v, rfl, hv⟩, hb⟩
                    have hbz : Below wr.heap.size wr wz := (((Below.refl wr.heap.size wr).alloc (Nat.le_refl _) _).drew).trans (hb.mono (by simp))
                    rw [HRN.out] at hv
                    obtain ⟨cr, gr, rfl, hrd⟩ := own_pts hv HRN.out (by omega)
                    obtain ⟨hx1, hy1⟩ := hrd.2.2 m (by have := HRN.out; omega)
                    rw [HPX.out] at hx1
                    rw [HPY.out] at hy1
                    have HBZ := Lib.hid hbz
                    have HKB : Hid (Bk wz wr.heap.size 43 #[.int .i64 0, .int .i64 0]) := (Bk.new wr 43 #[.int .i64 0, .int .i64 0]).drew.later hb
                    clear hv hb hrd hbz
                    go_wp2_with fail
                    refine hK.out _ _ ?_ (fun hHeld => ?_)
                    · clear hK K; exact ⟨HS.out _ HBZ.out, HBZ.out⟩
                    clear hK K
                    try simp only [List.getElem_toArray, List.getElem_cons_succ, List.getElem_cons_zero, Act.put, List.setIfInBounds_toArray, List.set_cons_zero, List.set_cons_succ]
                    refine wpAnyH_take (i := 11) (v := ?_) rfl (by kernel_rfl) (by kernel_rfl) (by kernel_rfl) (fun _ _ _ h => h) (Or.inl ⟨by rfl, ?_⟩) (by assumption) ?_
                    rotate_left
                    · intro w hSw; (try dsimp only at hSw); go_simp; (try (with_reducible rfl))
                    try simp only [List.getElem_toArray, List.getElem_cons_succ, List.getElem_cons_zero, Act.put, List.setIfInBounds_toArray, List.set_cons_zero, List.set_cons_succ]
                    refine wpAnyH_ready (rs := [12]) (by kernel_rfl) (by simp) ?_
                    refine AllReadyH.cons rfl (fun K hK => ?_) AllReadyH.nil
                    go_simp
                    refine hK.out _ _ ?_ (fun hHeld => ?_)
                    · clear hK K; exact ⟨HS.out _ HBZ.out, HBZ.out⟩
                    clear hK K
                    try simp only [List.getElem_toArray, List.getElem_cons_succ, List.getElem_cons_zero, Act.put, List.setIfInBounds_toArray, List.set_cons_zero, List.set_cons_succ]
                    have q0 : wz.cell? ⟨wr.heap.size, 0, none⟩ = some (.int .i64 0) := by rw [HKB.out.cell]; rfl
                    have q1 : wz.cell? ⟨wr.heap.size, 1, none⟩ = some (.int .i64 0) := by rw [HKB.out.cell]; rfl
                    have f0 : wz.frozen? ⟨wr.heap.size, 0, none⟩ = false := HKB.out.frozen 0
                    have f1 : wz.frozen? ⟨wr.heap.size, 1, none⟩ = false := HKB.out.frozen 1
                    refine wpAnyH_ready (rs := [14]) (by kernel_rfl) (by simp) ?_
                    refine AllReadyH.cons rfl (fun K hK => ?_) AllReadyH.nil
                    go_simp
                    refine hK.out _ _ ?_ (fun hHeld => ?_)
                    · clear hK K; refine keepS HS.out ?_; first | exact ((HBZ.out.setCell (Nat.le_refl _) _).setCell (Nat.le_refl _) _)
                    clear hK K
                    try simp only [List.getElem_toArray, List.getElem_cons_succ, List.getElem_cons_zero, Act.put, List.setIfInBounds_toArray, List.set_cons_zero, List.set_cons_succ]
                    refine wpAnyH_done (by kernel_rfl) ?_ _
                    go_wp2_with fail
                    go_meet
                    refine ⟨wr.heap.size, rfl, ?_, Lib.hid ?_, Lib.hid ?_⟩
                    · first | exact HBZ.out.size | exact Nat.le_refl _
                    · first | exact (HKB.out.set_ 0 _).set_ 1 _
                    · first | exact ((HBZ.out.setCell (Nat.le_refl _) _).setCell (Nat.le_refl _) _)
                case rest =>
                  obtain ⟨gq, rfl, hgq, hkq, hbx⟩ := hcut
                  obtain ⟨w7, hw7⟩ : ∃ W, W = wc := ⟨_, rfl⟩
                  subst hw7
                  have HI7 := Lib.hid (HI.out.later hbx.out)
                  have HX7 : Hid (Below g5 w3 w7) := HX.out.trans (hbx.out.mono hg5r)
                  have HN : Hid (ImgD (w7.setCell ⟨G Y, X, none⟩ (.int .i64 0)) g5 gv cp G (imgW R L c (k + 1))) := HI7.out.draw Y X hXY.2 (imgW_set hkc hXY.2 HPT.out) (imgW_length _ _ _ _)
                  have hGY := HI7.out.row Y hXY.2
                  have HXS : Hid (Below g5 w3 (w7.setCell ⟨G Y, X, none⟩ (.int .i64 0))) := HX7.out.setCell (by show g5 ≤ G Y; omega) _
                  have i0 : w7.cell? ⟨g5, 0, none⟩ = some (.slice (some ⟨gv, 0, none⟩) 13 cp) := by rw [HI7.out.im.cell]; rfl
                  have q0 : w7.cell? ⟨gq, 0, none⟩ = some (.int .i64 ((X : Int) - 6)) := by rw [hkq.out.cell]; rfl
                  have q1 : w7.cell? ⟨gq, 1, none⟩ = some (.int .i64 ((Y : Int) - 6)) := by rw [hkq.out.cell]; rfl
                  have v1 := HI7.out.vec Y hXY.2
                  obtain ⟨gy, hgy⟩ : ∃ g, G Y = g := ⟨_, rfl⟩
                  rw [hgy] at v1 hGY HN HXS
                  have o1 : w7.cell? ⟨gy, X, none⟩ = some (.int .i64 (((imgW R L c k).getD Y []).getD X 0)) := by rw [hGY.2.1.cell]; exact iArr_at _ _ (by rw [hGY.2.2]; exact hXY.1)
                  have f1 : w7.frozen? ⟨gy, X, none⟩ = false := hGY.2.1.frozen X
                  obtain ⟨ov, hov⟩ : ∃ z, ((imgW R L c k).getD Y []).getD X 0 = z := ⟨_, rfl⟩
                  rw [hov] at o1
                  have wx : IntKind.i64.wrap (6 + ((X : Int) - 6)) = (X : Int) := by rw [show 6 + ((X : Int) - 6) = (X : Int) by omega]; exact IntWalk.i64_in _ (by omega)
                  have wy : IntKind.i64.wrap (6 + ((Y : Int) - 6)) = (Y : Int) := by rw [show 6 + ((Y : Int) - 6) = (Y : Int) by omega]; exact IntWalk.i64_in _ (by omega)
                  have hX13 : (X : Int) < 13 := by omega
                  have hY13 : (Y : Int) < 13 := by omega
                  have hX13n : X < 13 := by omega
                  have hY13n : Y < 13 := by omega
                  obtain ⟨xx, hxx⟩ : ∃ z, (X : Int) - 6 = z := ⟨_, rfl⟩
                  obtain ⟨yy, hyy⟩ : ∃ z, (Y : Int) - 6 = z := ⟨_, rfl⟩
                  rw [hxx] at q0 wx
                  rw [hyy] at q1 wy
                  clear hov hgy hGY HI7 HX7 hkq hbx hgq HI HX HS ck CR HPX HPY HPT wm hmI hmr hrl HRN hxx hyy hkc hbk
                  go_wp2_with fail
                  go_region
                  go_wp2
                  go_roundw
                  case rel => exact ⟨k + 1, by omega, by go_num, HN.out.later (Below.refl _ _).drew, HXS.out.drew⟩
                  case measure => simp [intOf]; omega
            · obtain rfl : k = 8 := by omega
              obtain ⟨w9, hw9⟩ : ∃ W, W = wr := ⟨_, rfl⟩
              subst hw9
              have hg5r : g5 ≤ w9.heap.size := by have := HI.out.lt; omega
              have HP8 : Hid (∀ W, Below w9.heap.size w9 W → Bk W w.heap.size 37 (gdRow R L b c) ∧ Below w.heap.size w W ∧ LaidG W) := fun W hW => HW.out _ (HX.out.trans (hW.mono hg5r))
              have im0 : w9.cell? ⟨g5, 0, none⟩ = some (.slice (some ⟨gv, 0, none⟩) 13 cp) := by rw [HI.out.im.cell]; rfl
              have IR := Lib.hid (HI.out.read (imgW_length R L c 8))
              obtain ⟨⟨hL1, hL2⟩, hbb, hcc, h7⟩ := HLB.out
              obtain ⟨l, n, hbl⟩ : ∃ l n, bestL (stripW R L c) b = (l, n) := ⟨_, _, rfl⟩
              obtain ⟨hp, hf, hin, hln, hbt, _, _⟩ := best_follows HRR.out (c := c) ⟨hL1, hL2⟩ hbb (by omega) hbl
              obtain ⟨br0, br1, br2, br3⟩ := bridge_W hcc hln hin hf
              obtain ⟨br, hbr⟩ : ∃ x, brL l (crkW c) = x := ⟨_, rfl⟩
              rw [hbr] at br1 br2 br3
              obtain ⟨bk0, bk1, bk2, bk3⟩ := back_W br1 br2
              obtain ⟨vl, hvl⟩ : ∃ x, velX br = x := ⟨_, rfl⟩
              rw [hvl] at bk1 bk2 bk3
              have HL1 : Hid (0 ≤ L ∧ L ≤ 255) := ⟨by omega, hL2⟩
              have HL2 : Hid (1 ≤ L ∧ L ≤ 255) := ⟨hL1, hL2⟩
              have HBB := Lib.hid hbb
              have HCC := Lib.hid hcc
              have HBL := Lib.hid hbl
              have HPL := Lib.hid hp
              have HFL := Lib.hid hf
              have HIN := Lib.hid hin
              have HLN := Lib.hid hln
              have HBT := Lib.hid hbt
              have HB0 := Lib.hid br0
              have HB1 := Lib.hid br1
              have HB2 := Lib.hid br2
              have HB3 := Lib.hid br3
              have HK0 := Lib.hid bk0
              have HK1 := Lib.hid bk1
              have HK2 := Lib.hid bk2
              have HK3 := Lib.hid bk3
              have HBR := Lib.hid hbr
              have HVL := Lib.hid hvl
              have B9 := Lib.hid (Below.refl w9.heap.size w9)
              clear hL1 hL2 hbb hcc h7 hbl hp hf hin hln hbt br0 br1 br2 br3 bk0 bk1 bk2 bk3 hbr hvl HI HX hbk hlt HLB hi0 hz0 hz1 hz2 hg5r
              try rw [show ((8 : Nat) : Int) = 8 from rfl]
              go_wp2_with fail
              refine (copyImage_any _ 13 cp (imgW R L c 8) w9 IR.out (by omega) (img203 R L c 8)).mono ?_
              rintro e w10 ⟨⟨A9, c9i, rfl, h9⟩, hb⟩
              clear im0 IR
              have B10 := Lib.hid (B9.out.trans (hb.mono B9.out.size))
              clear B9
              have J10 := Lib.hid (h9)
              clear hb h9
              go_wp2_with fail
              refine (w_unr HRR.out HL1.out A9 c9i w10 (HP8.out _ B10.out).2.2.sd J10.out).mono ?_
              rintro e w11 ⟨⟨As, cs, rfl, hs⟩, hb⟩
              have B11 := Lib.hid (B10.out.trans (hb.mono B10.out.size))
              have J11 := Lib.hid (J10.out.below hb)
              clear B10 J10
              have S11 := Lib.hid (hs)
              clear hb hs
              clear J11
              have c9 : w11.cell? ⟨w.heap.size, 9, none⟩ = some (.int .i64 b) := by rw [(HP8.out _ B11.out).1.cell]; rfl
              go_upto_region 28 with (fail)
              obtain ⟨w12, hw⟩ : ∃ W, w11.alloc (.cells #[.slice As 8 cs, .int .i64 b] 55) = W := ⟨_, rfl⟩
              have hb : Below w11.heap.size w11 w12 := by rw [← hw]; exact (Below.refl _ _).alloc (Nat.le_refl _) _
              have hk : Bk w12 w11.heap.size 55 #[.slice As 8 cs, .int .i64 b] := by rw [← hw]; exact Bk.new _ _ _
              rw [hw]
              obtain ⟨gt, hgt⟩ : ∃ g, w11.heap.size = g := ⟨_, rfl⟩
              rw [hgt] at hk ⊢
              clear hw c9
              have B12 := Lib.hid (B11.out.trans (hb.mono B11.out.size))
              have S12 := Lib.hid (S11.out.below hb)
              clear B11 S11
              clear hgt hb
              have K12 := Lib.hid (hk)
              clear hk
              have t0 : w12.cell? ⟨gt, 0, none⟩ = some (.slice As 8 cs) := by rw [K12.out.cell]; rfl
              have t1 : w12.cell? ⟨gt, 1, none⟩ = some (.int .i64 b) := by rw [K12.out.cell]; rfl
              go_wp2_with fail
              refine (w_task HL1.out HBB.out As cs w12 S12.out).mono ?_
              rintro e w13 ⟨rfl, hb⟩
              clear t0 t1
              have B13 := Lib.hid (B12.out.trans (hb.mono B12.out.size))
              have S13 := Lib.hid (S12.out.below hb)
              have K13 := Lib.hid (Bk.later K12.out hb)
              clear B12 S12 K12
              clear hb
              have t0 : w13.cell? ⟨gt, 0, none⟩ = some (.slice As 8 cs) := by rw [K13.out.cell]; rfl
              have t1 : w13.cell? ⟨gt, 1, none⟩ = some (.int .i64 b) := by rw [K13.out.cell]; rfl
              go_wp2_with fail
              refine (copyTask_any As 8 cs (stripW R L c) b w13 S13.out (by omega) (strip203 R L c)).mono ?_
              rintro e w14 ⟨⟨Ac, cc, rfl, hs⟩, hb⟩
              clear t0 t1
              have B14 := Lib.hid (B13.out.trans (hb.mono B13.out.size))
              have S14 := Lib.hid (S13.out.below hb)
              have K14 := Lib.hid (Bk.later K13.out hb)
              clear B13 S13 K13
              have Q14 := Lib.hid (hs)
              clear hb hs
              go_wp2_with fail
              refine (w_best HL1.out HBB.out HBL.out HLN.out Ac cc w14 Q14.out).mono ?_
              rintro e w15 ⟨⟨Al, cl, rfl, hl1, hl2⟩, hb⟩
              have B15 := Lib.hid (B14.out.trans (hb.mono B14.out.size))
              have S15 := Lib.hid (S14.out.below hb)
              have K15 := Lib.hid (Bk.later K14.out hb)
              have Q15 := Lib.hid (Q14.out.below hb)
              clear B14 S14 K14 Q14
              have RL15 := Lib.hid (hl1)
              clear hb hl1
              clear hl2
              obtain ⟨adl, rfl, habl, _⟩ := RL15.out.2 (by omega)
              clear habl
              clear Q15
              have t0 : w15.cell? ⟨gt, 0, none⟩ = some (.slice As 8 cs) := by rw [K15.out.cell]; rfl
              have t1 : w15.cell? ⟨gt, 1, none⟩ = some (.int .i64 b) := by rw [K15.out.cell]; rfl
              go_wp2_with fail
              refine (copyTask_any As 8 cs (stripW R L c) b w15 S15.out (by omega) (strip203 R L c)).mono ?_
              rintro e w16 ⟨⟨Ac, cc, rfl, hs⟩, hb⟩
              clear t0 t1
              have B16 := Lib.hid (B15.out.trans (hb.mono B15.out.size))
              have S16 := Lib.hid (S15.out.below hb)
              have K16 := Lib.hid (Bk.later K15.out hb)
              have RL16 := Lib.hid (RL15.out.below hb)
              clear B15 S15 K15 RL15
              have Q16 := Lib.hid (hs)
              clear hb hs
              go_wp2_with fail
              refine (w_prices HL1.out HBB.out Ac cc w16 Q16.out).mono ?_
              rintro e w17 ⟨⟨Ap, rfl, hpz⟩, hb⟩
              have B17 := Lib.hid (B16.out.trans (hb.mono B16.out.size))
              have S17 := Lib.hid (S16.out.below hb)
              have K17 := Lib.hid (Bk.later K16.out hb)
              have RL17 := Lib.hid (RL16.out.below hb)
              have Q17 := Lib.hid (Q16.out.below hb)
              clear B16 S16 K16 RL16 Q16
              have RP17 := Lib.hid (hpz)
              clear hb hpz
              clear Q17
              have t0 : w17.cell? ⟨gt, 0, none⟩ = some (.slice As 8 cs) := by rw [K17.out.cell]; rfl
              have t1 : w17.cell? ⟨gt, 1, none⟩ = some (.int .i64 b) := by rw [K17.out.cell]; rfl
              go_wp2_with fail
              refine (w_pathErr HL1.out HBB.out HPL.out As (some adl) cs cl w17 S17.out RL17.out).mono ?_
              rintro e w18 ⟨rfl, hb⟩
              clear t0 t1
              have B18 := Lib.hid (B17.out.trans (hb.mono B17.out.size))
              have S18 := Lib.hid (S17.out.below hb)
              have K18 := Lib.hid (Bk.later K17.out hb)
              have RL18 := Lib.hid (RL17.out.below hb)
              have RP18 := Lib.hid (RP17.out.below hb)
              clear B17 S17 K17 RL17 RP17
              clear hb
              have t0 : w18.cell? ⟨gt, 0, none⟩ = some (.slice As 8 cs) := by rw [K18.out.cell]; rfl
              have t1 : w18.cell? ⟨gt, 1, none⟩ = some (.int .i64 b) := by rw [K18.out.cell]; rfl
              go_wp2_with fail
              refine (copyTask_any As 8 cs (stripW R L c) b w18 S18.out (by omega) (strip203 R L c)).mono ?_
              rintro e w19 ⟨⟨Ac, cc, rfl, hs⟩, hb⟩
              clear t0 t1
              have B19 := Lib.hid (B18.out.trans (hb.mono B18.out.size))
              have S19 := Lib.hid (S18.out.below hb)
              have K19 := Lib.hid (Bk.later K18.out hb)
              have RL19 := Lib.hid (RL18.out.below hb)
              have RP19 := Lib.hid (RP18.out.below hb)
              clear B18 S18 K18 RL18 RP18
              have Q19 := Lib.hid (hs)
              clear hb hs
              go_wp2_with fail
              refine (copyPrices R L c b Ap 8 w19 RP19.out).mono ?_
              rintro e w20 ⟨⟨Ax, cx, rfl, hx⟩, hb⟩
              have B20 := Lib.hid (B19.out.trans (hb.mono B19.out.size))
              have S20 := Lib.hid (S19.out.below hb)
              have K20 := Lib.hid (Bk.later K19.out hb)
              have RL20 := Lib.hid (RL19.out.below hb)
              have RP20 := Lib.hid (RP19.out.below hb)
              have Q20 := Lib.hid (Q19.out.below hb)
              clear B19 S19 K19 RL19 RP19 Q19
              have RX20 := Lib.hid (hx)
              clear hb hx
              have hnn : (n != n) = false := bne_self_eq_false' _
              go_wp2_with fail
              refine (w_check HL2.out HBB.out HBT.out Ac Ax cc cx w20 Q20.out RX20.out).mono ?_
              rintro e w21 ⟨rfl, hb⟩
              have B21 := Lib.hid (B20.out.trans (hb.mono B20.out.size))
              have S21 := Lib.hid (S20.out.below hb)
              have K21 := Lib.hid (Bk.later K20.out hb)
              have RL21 := Lib.hid (RL20.out.below hb)
              have RP21 := Lib.hid (RP20.out.below hb)
              have Q21 := Lib.hid (Q20.out.below hb)
              have RX21 := Lib.hid (RX20.out.below hb)
              clear B20 S20 K20 RL20 RP20 Q20 RX20
              clear hb
              clear Q21
              clear RX21
              clear RP21
              go_wp2
              try rw [show ((8 : Nat) : Int) = 8 from rfl]
              clear hnn
              go_loopw [20] (fun i wr => ∃ k : Nat, k ≤ 8 ∧ i = .int .i64 (k : Int) ∧ Hid (Below w21.heap.size w21 wr)) (fun i _ => 8 - (intOf i).toNat)
              case atStart => exact ⟨0, Nat.zero_le _, rfl, Below.refl _ _⟩
              case round =>
                obtain ⟨k, hk, rfl, HX⟩ := hrel
                have hbk := (HP8.out _ (B21.out.trans (HX.out.mono B21.out.size))).1
                by_cases hlt : k < 8
                · have hltI : (k : Int) < 8 := by omega
                  have hB : Hid (∀ q, Below w21.heap.size w21 (wr.drewN q)) := fun q => HX.out.trans ((below_dN wr q).mono HX.out.size)
                  have c10 : wr.cell? ⟨w.heap.size, 10, none⟩ = some (.int .i64 c) := by rw [hbk.cell]; rfl
                  by_cases hkc : (k : Int) = c
                  · have hkb : ((k : Int) != c) = false := by simpa using hkc
                    clear hkc hbk
                    go_wp2_with fail
                    go_quiet (fail)
                    go_wp2
                    go_roundw
                    case rel => exact ⟨k + 1, by omega, by go_num, hB.out _⟩
                    case measure => simp [intOf]; omega
                  · have hkb : ((k : Int) != c) = true := by simpa using hkc
                    have ck : wr.cell? ⟨w.heap.size, k, none⟩ = some (.int .i64 (R k)) := by rw [hbk.cell]; exact gdRow_at R L b c k hlt
                    have hrl := RL21.out.below HX.out
                    obtain ⟨ad', e', _, hcl⟩ := hrl.2 (by omega)
                    cases e'
                    have cl1 := hcl k hlt
                    rw [HFL.out k hlt hkc] at cl1
                    have hrb := HRR.out.bd k hlt
                    obtain ⟨rk, hrk⟩ : ∃ z, R k = z := ⟨_, rfl⟩
                    rw [hrk] at ck cl1 hrb
                    have wr0 : IntKind.i64.wrap (rk - 1) = rk - 1 := IntWalk.i64_in _ (by omega)
                    obtain ⟨rj, hrj⟩ : ∃ z, rk - 1 = z := ⟨_, rfl⟩
                    rw [hrj] at cl1
                    have wr1 : IntKind.i64.wrap (rk - 1) = rj := wr0.trans hrj
                    clear wr0
                    have hjj : (rj != rj) = false := bne_self_eq_false' _
                    clear hkc hbk hrk hcl hrl hrb hrj
                    go_wp2_with fail
                    go_quiet (fail)
                    go_wp2
                    go_roundw
                    case rel => exact ⟨k + 1, by omega, by go_num, hB.out _⟩
                    case measure => simp [intOf]; omega
                · obtain rfl : k = 8 := by omega
                  obtain ⟨w22, hw⟩ : ∃ W, W = wr := ⟨_, rfl⟩
                  subst hw
                  have hb := HX.out
                  have B22 := Lib.hid (B21.out.trans (hb.mono B21.out.size))
                  have S22 := Lib.hid (S21.out.below hb)
                  have K22 := Lib.hid (Bk.later K21.out hb)
                  have RL22 := Lib.hid (RL21.out.below hb)
                  clear B21 S21 K21 RL21
                  clear hb HX hlt hbk
                  try rw [show ((8 : Nat) : Int) = 8 from rfl]
                  have t0 : w22.cell? ⟨gt, 0, none⟩ = some (.slice As 8 cs) := by rw [K22.out.cell]; rfl
                  have t1 : w22.cell? ⟨gt, 1, none⟩ = some (.int .i64 b) := by rw [K22.out.cell]; rfl
                  go_wp2_with fail
                  refine (copyTask_any As 8 cs (stripW R L c) b w22 S22.out (by omega) (strip203 R L c)).mono ?_
                  rintro e w23 ⟨⟨Ac, cc, rfl, hs⟩, hb⟩
                  clear t0 t1
                  have B23 := Lib.hid (B22.out.trans (hb.mono B22.out.size))
                  have S23 := Lib.hid (S22.out.below hb)
                  have K23 := Lib.hid (Bk.later K22.out hb)
                  have RL23 := Lib.hid (RL22.out.below hb)
                  clear B22 S22 K22 RL22
                  have Q23 := Lib.hid (hs)
                  clear hb hs
                  go_wp2_with fail
                  refine (copy8 (some adl) cl l HLN.out w23 (fun e => by cases e) RL23.out).mono ?_
                  rintro e w24 ⟨⟨Ay, cy, rfl, hy1, hy2⟩, hb⟩
                  have B24 := Lib.hid (B23.out.trans (hb.mono B23.out.size))
                  have S24 := Lib.hid (S23.out.below hb)
                  have K24 := Lib.hid (Bk.later K23.out hb)
                  have RL24 := Lib.hid (RL23.out.below hb)
                  have Q24 := Lib.hid (Q23.out.below hb)
                  clear B23 S23 K23 RL23 Q23
                  have RY24 := Lib.hid (hy1)
                  clear hb hy1
                  clear hy2
                  go_wp2_with fail
                  refine (w_cracks HL2.out HBB.out HCC.out HPL.out HIN.out HFL.out Ac Ay cc cy w24 Q24.out RY24.out).mono ?_
                  rintro e w25 ⟨⟨vz, rfl, hz⟩, hb⟩
                  have B25 := Lib.hid (B24.out.trans (hb.mono B24.out.size))
                  have S25 := Lib.hid (S24.out.below hb)
                  have K25 := Lib.hid (Bk.later K24.out hb)
                  have RL25 := Lib.hid (RL24.out.below hb)
                  have Q25 := Lib.hid (Q24.out.below hb)
                  have RY25 := Lib.hid (RY24.out.below hb)
                  clear B24 S24 K24 RL24 Q24 RY24
                  clear hb
                  clear Q25
                  clear RY25
                  have hnz0 := ownNil hz
                  obtain ⟨Az, cz, gz, rfl, hAz, hzr⟩ := own_ranges hz rfl
                  have HAZ := Lib.hid hAz
                  have HNZ := Lib.hid (hnz0 Az cz rfl)
                  have RZ25 := Lib.hid (hzr)
                  clear hz hnz0 hAz hzr
                  have HPC : Hid ((pairCells (crkW c)).length = (crkW c).length * 2) := pairCells_length _
                  have HPO : Hid (∀ u ∈ pairCells (crkW c), u.oneCell' = true) := pairCells_one _
                  obtain ⟨cw, hcw⟩ : ∃ x, crkW c = x := ⟨_, rfl⟩
                  have HCW := Lib.hid hcw
                  rw [hcw] at HAZ HNZ RZ25 HPC HPO HB0 HBR ⊢
                  obtain ⟨nz, hnz⟩ : ∃ z, cw.length = z := ⟨_, rfl⟩
                  have HNL := Lib.hid hnz
                  rw [hnz] at HAZ HNZ RZ25 HPC ⊢
                  clear hcw hnz
                  by_cases hc0 : 0 ≤ c
                  · have hcw : cw = [(c, c)] := by rw [← HCW.out]; unfold crkW; rw [if_pos hc0]
                    have hn1 : nz = 1 := by rw [← HNL.out, hcw]; rfl
                    subst hn1
                    have hcI : ¬ c < 0 := by omega
                    have c10 : w25.cell? ⟨w.heap.size, 10, none⟩ = some (.int .i64 c) := by rw [(HP8.out _ B25.out).1.cell]; rfl
                    have HLT : Hid (RdR (w25.alloc (.cells #[.int .i64 c, .int .i64 c] 51)) w25.heap.size 1 cw) := by
                      refine ⟨HNL.out, fun _ => by simp, fun j hj => ?_⟩
                      obtain rfl : j = 0 := by omega
                      rw [hcw]
                      have hk := Bk.new w25 51 #[.int .i64 c, .int .i64 c]
                      exact ⟨by rw [hk.cell]; rfl, by rw [hk.cell]; rfl⟩
                    have HZA : Hid (RdR (w25.alloc (.cells #[.int .i64 c, .int .i64 c] 51)) gz 1 cw) := RZ25.out.below ((Below.refl _ _).alloc (Nat.le_refl _) _)
                    clear hcw
                    go_wp2_with fail
                    refine (ranges_same Az (some ⟨w25.heap.size, 0, none⟩) gz w25.heap.size 1 cz 1 cw _ HZA.out HLT.out (by omega) HAZ.out (fun _ => rfl)).mono ?_
                    rintro e w26 ⟨rfl, hb0⟩
                    have hb : Below w25.heap.size w25 w26 := ((Below.refl _ _).alloc (Nat.le_refl _) _).trans (hb0.mono (by simp))
                    clear hb0 HLT HZA c10
                    have B26 := Lib.hid (B25.out.trans (hb.mono B25.out.size))
                    have S26 := Lib.hid (S25.out.below hb)
                    have K26 := Lib.hid (Bk.later K25.out hb)
                    have RL26 := Lib.hid (RL25.out.below hb)
                    have RZ26 := Lib.hid (RZ25.out.below hb)
                    clear B25 S25 K25 RL25 RZ25
                    clear hb
                    go_wp2_with fail
                    refine (copy8 (some adl) cl l HLN.out w26 (fun e => by cases e) RL26.out).mono ?_
                    rintro e w27 ⟨⟨Ay, cy, rfl, hy1, hy2⟩, hb⟩
                    clear hcI
                    have B27 := Lib.hid (B26.out.trans (hb.mono B26.out.size))
                    have S27 := Lib.hid (S26.out.below hb)
                    have K27 := Lib.hid (Bk.later K26.out hb)
                    have RL27 := Lib.hid (RL26.out.below hb)
                    have RZ27 := Lib.hid (RZ26.out.below hb)
                    clear B26 S26 K26 RL26 RZ26
                    have RY27 := Lib.hid (hy1)
                    clear hb hy1
                    clear hy2
                    have ho0 : Hid ((w27.alloc (.cells #[] 51)).ownsRow w27.heap.size 51 2 (.slice (some ⟨w27.heap.size, 0, none⟩) 0 0) 0 ([] : List Value)) := World.ownsRow_lit w27 #[] 0 (Nat.le_refl _) (by unfold maxLen; omega) rfl
                    have HSR : Hid (∀ ad, Az = some ad → ∀ j u, (pairCells cw)[j]? = some u → (w27.alloc (.cells #[] 51)).cell? (ad.add j) = some u) := fun ad e j u hu => ranges_src RZ27.out HAZ.out HNL.out e j u hu
                    have hnz1 : (1 : Nat) ≤ 1 := by omega
                    obtain ⟨i0, hi0, hz0, hz1, hz2⟩ := info_parts rngInfo
                    go_wp2_with (at_builtin; refine wpList_append_both rfl (.tmp 262) (.tmp 263) 67 rfl w27.heap.size 51 i0 _ 2 16 Tryz.underlying67 hi0 hz0 hz1 hz2 rfl (by decide) _ _ _ rfl ho0.out Az 1 cz (pairCells cw) rfl HNZ.out HPC.out HSR.out HPO.out (by unfold maxLen; omega) (by omega) (by simp) ?_)
                    intro v' w28 hown hgrow hnil
                    have hb : Below w27.heap.size w27 w28 := ((Below.refl _ _).alloc (Nat.le_refl _) _).grown hgrow (by simp) (fun z e => (ho0.out.lt z e).1)
                    obtain ⟨gb, cb, rfl⟩ := app_some hown (by first | exact hnil | exact fun e => by cases (hnil.1 e).1)
                    try rw [Nat.zero_add] at hown
                    try rw [List.nil_append] at hown
                    have hrb := rdR_of_own hown HNL.out
                    try rw [Nat.zero_add]
                    have B28 := Lib.hid (B27.out.trans (hb.mono B27.out.size))
                    have S28 := Lib.hid (S27.out.below hb)
                    have K28 := Lib.hid (Bk.later K27.out hb)
                    have RL28 := Lib.hid (RL27.out.below hb)
                    have RZ28 := Lib.hid (RZ27.out.below hb)
                    have RY28 := Lib.hid (RY27.out.below hb)
                    clear B27 S27 K27 RL27 RZ27 RY27
                    have RG28 := Lib.hid (hrb)
                    clear hb hown hgrow hnil hrb ho0 HSR hi0 hz0 hz1 hz2
                    have CBr := Lib.hid (Bridged_any Ay 8 cy gb 1 cb l cw w28 RY28.out RG28.out (by omega) (by omega))
                    rw [HB0.out, HBR.out] at CBr
                    go_wp2_with fail
                    refine (CBr.out).mono ?_
                    rintro e w29 ⟨⟨vb, rfl, hob⟩, hb⟩
                    clear CBr
                    have B29 := Lib.hid (B28.out.trans (hb.mono B28.out.size))
                    have S29 := Lib.hid (S28.out.below hb)
                    have K29 := Lib.hid (Bk.later K28.out hb)
                    have RL29 := Lib.hid (RL28.out.below hb)
                    have RZ29 := Lib.hid (RZ28.out.below hb)
                    have RY29 := Lib.hid (RY28.out.below hb)
                    have RG29 := Lib.hid (RG28.out.below hb)
                    clear B28 S28 K28 RL28 RZ28 RY28 RG28
                    clear hb
                    clear RY29
                    clear RG29
                    clear RZ29
                    clear RL29
                    obtain ⟨Ab, cbb, rfl, _, hrb, hnb⟩ := rd_ownN (n := br.length) hob
                    rw [HB1.out] at hrb hnb ⊢
                    clear hob hnb
                    obtain ⟨adb, rfl, _, _⟩ := hrb.2 (by omega)
                    have RB29 := Lib.hid (hrb)
                    clear hrb
                    have CPE := Lib.hid (refPosErr_any (some adb) 8 cbb br w29 RB29.out (by omega))
                    rw [HB2.out] at CPE
                    go_wp2_with fail
                    refine (CPE.out).mono ?_
                    rintro e wE ⟨rfl, hww⟩
                    obtain rfl := hww
                    clear CPE
                    go_wp2
                    try rw [show ((8 : Nat) : Int) = 8 from rfl]
                    skip
                    go_loopw [25] (fun i wr => ∃ k : Nat, k ≤ 8 ∧ i = .int .i64 (k : Int) ∧ Hid (Below w29.heap.size w29 wr)) (fun i _ => 8 - (intOf i).toNat)
                    case atStart => exact ⟨0, Nat.zero_le _, rfl, Below.refl _ _⟩
                    case round =>
                      obtain ⟨k, hk, rfl, HX⟩ := hrel
                      have hbk := (HP8.out _ (B29.out.trans (HX.out.mono B29.out.size))).1
                      by_cases hlt : k < 8
                      · have hltI : (k : Int) < 8 := by omega
                        have hB : Hid (∀ q, Below w29.heap.size w29 (wr.drewN q)) := fun q => HX.out.trans ((below_dN wr q).mono HX.out.size)
                        have c10 : wr.cell? ⟨w.heap.size, 10, none⟩ = some (.int .i64 c) := by rw [hbk.cell]; rfl
                        by_cases hkc : (k : Int) = c
                        · have hkb : ((k : Int) != c) = false := by simpa using hkc
                          clear hkc hbk
                          go_wp2_with fail
                          go_quiet (fail)
                          go_wp2
                          go_roundw
                          case rel => exact ⟨k + 1, by omega, by go_num, hB.out _⟩
                          case measure => simp [intOf]; omega
                        · have hkb : ((k : Int) != c) = true := by simpa using hkc
                          have ck : wr.cell? ⟨w.heap.size, k, none⟩ = some (.int .i64 (R k)) := by rw [hbk.cell]; exact gdRow_at R L b c k hlt
                          have hrl := RB29.out.below HX.out
                          obtain ⟨ad', e', _, hcl⟩ := hrl.2 (by omega)
                          cases e'
                          have cl1 := hcl k hlt
                          rw [HB3.out k hlt hkc] at cl1
                          have hrb := HRR.out.bd k hlt
                          obtain ⟨rk, hrk⟩ : ∃ z, R k = z := ⟨_, rfl⟩
                          rw [hrk] at ck cl1 hrb
                          have wr0 : IntKind.i64.wrap (rk - 1) = rk - 1 := IntWalk.i64_in _ (by omega)
                          obtain ⟨rj, hrj⟩ : ∃ z, rk - 1 = z := ⟨_, rfl⟩
                          rw [hrj] at cl1
                          have wr1 : IntKind.i64.wrap (rk - 1) = rj := wr0.trans hrj
                          clear wr0
                          have hjj : (rj != rj) = false := bne_self_eq_false' _
                          clear hkc hbk hrk hcl hrl hrb hrj
                          go_wp2_with fail
                          go_quiet (fail)
                          go_wp2
                          go_roundw
                          case rel => exact ⟨k + 1, by omega, by go_num, hB.out _⟩
                          case measure => simp [intOf]; omega
                      · obtain rfl : k = 8 := by omega
                        obtain ⟨w30, hw⟩ : ∃ W, W = wr := ⟨_, rfl⟩
                        subst hw
                        have hb := HX.out
                        have B30 := Lib.hid (B29.out.trans (hb.mono B29.out.size))
                        have S30 := Lib.hid (S29.out.below hb)
                        have K30 := Lib.hid (Bk.later K29.out hb)
                        have RB30 := Lib.hid (RB29.out.below hb)
                        clear B29 S29 K29 RB29
                        clear hb HX hlt hbk
                        try rw [show ((8 : Nat) : Int) = 8 from rfl]
                        go_wp2_with fail
                        refine (copy8 (some adb) cbb br HB1.out w30 (fun e => by cases e) RB30.out).mono ?_
                        rintro e w31 ⟨⟨Ay, cy, rfl, hy1, hy2⟩, hb⟩
                        have B31 := Lib.hid (B30.out.trans (hb.mono B30.out.size))
                        have S31 := Lib.hid (S30.out.below hb)
                        have K31 := Lib.hid (Bk.later K30.out hb)
                        have RB31 := Lib.hid (RB30.out.below hb)
                        clear B30 S30 K30 RB30
                        have RY31 := Lib.hid (hy1)
                        clear hb hy1
                        clear hy2
                        have CV := Lib.hid (VelocitiesOf_any Ay 8 cy br w31 RY31.out (by omega))
                        rw [HK0.out, HVL.out] at CV
                        go_wp2_with fail
                        refine (CV.out).mono ?_
                        rintro e w32 ⟨⟨vv, rfl, hov⟩, hb⟩
                        clear CV
                        have B32 := Lib.hid (B31.out.trans (hb.mono B31.out.size))
                        have S32 := Lib.hid (S31.out.below hb)
                        have K32 := Lib.hid (Bk.later K31.out hb)
                        have RB32 := Lib.hid (RB31.out.below hb)
                        have RY32 := Lib.hid (RY31.out.below hb)
                        clear B31 S31 K31 RB31 RY31
                        clear hb
                        clear RY32
                        obtain ⟨Av, cv, rfl, _, hrv, _⟩ := rd_ownN (n := vl.length) hov
                        rw [HK1.out] at hrv ⊢
                        clear hov
                        have RV32 := Lib.hid (hrv)
                        clear hrv
                        obtain ⟨x0, hx0⟩ : ∃ x, br.getD 0 0 = x := ⟨_, rfl⟩
                        obtain ⟨ad', e', _, hcl⟩ := RB32.out.2 (by omega)
                        cases e'
                        have bz := hcl 0 (by omega)
                        rw [hx0] at bz
                        have bz2 := bz
                        rw [addZ] at bz2
                        have CP := Lib.hid (PositionsOf_any x0 Av 7 cv vl w32 RV32.out (by omega))
                        have HK2' := HK2.out
                        have HK3' := HK3.out
                        rw [hx0] at HK2' HK3'
                        rw [HK2', HK3'] at CP
                        clear HK2' HK3' hcl hx0
                        go_wp2_with fail
                        refine (CP.out).mono ?_
                        rintro e w33 ⟨⟨vq, rfl, hoq⟩, hb⟩
                        clear CP bz bz2
                        have B33 := Lib.hid (B32.out.trans (hb.mono B32.out.size))
                        have S33 := Lib.hid (S32.out.below hb)
                        have K33 := Lib.hid (Bk.later K32.out hb)
                        have RB33 := Lib.hid (RB32.out.below hb)
                        have RV33 := Lib.hid (RV32.out.below hb)
                        clear B32 S32 K32 RB32 RV32
                        clear hb
                        clear RV33
                        obtain ⟨Aq, cq, rfl, _, hrq, _⟩ := rd_ownN (n := br.length) hoq
                        rw [HB1.out] at hrq ⊢
                        clear hoq
                        have RQ33 := Lib.hid (hrq)
                        clear hrq
                        go_wp2_with fail
                        refine (copy8 (some adb) cbb br HB1.out w33 (fun e => by cases e) RB33.out).mono ?_
                        rintro e w34 ⟨⟨Ay, cy, rfl, hy1, hy2⟩, hb⟩
                        have B34 := Lib.hid (B33.out.trans (hb.mono B33.out.size))
                        have S34 := Lib.hid (S33.out.below hb)
                        have K34 := Lib.hid (Bk.later K33.out hb)
                        have RB34 := Lib.hid (RB33.out.below hb)
                        have RQ34 := Lib.hid (RQ33.out.below hb)
                        clear B33 S33 K33 RB33 RQ33
                        have RY34 := Lib.hid (hy1)
                        clear hb hy1
                        clear hy2
                        obtain ⟨hbl, hbd⟩ := pos_ok HB2.out
                        have hI64 : I64 br := fun x hx => by have := hbd x hx; omega
                        obtain ⟨TX, hTX⟩ : ∃ t, (⟨(joinP br).toArray⟩ : ByteArray) = t := ⟨_, rfl⟩
                        have CF := Lib.hid (formatPath_any Ay 8 cy br w34 (HP8.out _ B34.out).2.2 RY34.out (by omega) hI64)
                        have hTz : TX.size ≤ 5000 := by rw [← hTX, bytes_size]; have := joinP_len br hI64; omega
                        have HPT : Hid (ppE TX = 0 ∧ ppL TX = br) := by show _ ∧ _; unfold ppE ppL; rw [← hTX, pathS_join br HB2.out hbd hbl]; exact ⟨rfl, rfl⟩
                        rw [hTX] at CF
                        clear hbl hbd hI64 hTX
                        go_wp2_with fail
                        refine (CF.out).mono ?_
                        rintro e w35 ⟨rfl, hb⟩
                        clear CF
                        have B35 := Lib.hid (B34.out.trans (hb.mono B34.out.size))
                        have S35 := Lib.hid (S34.out.below hb)
                        have K35 := Lib.hid (Bk.later K34.out hb)
                        have RB35 := Lib.hid (RB34.out.below hb)
                        have RQ35 := Lib.hid (RQ34.out.below hb)
                        have RY35 := Lib.hid (RY34.out.below hb)
                        clear B34 S34 K34 RB34 RQ34 RY34
                        clear hb
                        clear RY35
                        have CPP := Lib.hid (parsePath_any TX w35 (HP8.out _ B35.out).2.2 (by omega))
                        rw [HPT.out.1, HPT.out.2] at CPP
                        go_wp2_with fail
                        refine (CPP.out).mono ?_
                        rintro e w36 ⟨⟨vt, rfl, hot⟩, hb⟩
                        clear CPP
                        have B36 := Lib.hid (B35.out.trans (hb.mono B35.out.size))
                        have S36 := Lib.hid (S35.out.below hb)
                        have K36 := Lib.hid (Bk.later K35.out hb)
                        have RB36 := Lib.hid (RB35.out.below hb)
                        have RQ36 := Lib.hid (RQ35.out.below hb)
                        clear B35 S35 K35 RB35 RQ35
                        clear hb
                        obtain ⟨At, ct, rfl, _, hrt, _⟩ := rd_ownN (n := br.length) hot
                        rw [HB1.out] at hrt ⊢
                        clear hot
                        have RT36 := Lib.hid (hrt)
                        clear hrt
                        go_wp2_with fail
                        refine (ints_any Aq (some adb) 8 8 cq cbb br br w36 RQ36.out RB36.out (by omega) (by omega)).mono ?_
                        rintro e w37 ⟨rfl, kq, hq⟩
                        rw [decide_eq_true (show br = br from rfl)]
                        have hb : Below w36.heap.size w36 w37 := by rw [hq]; exact below_dN _ _
                        clear hq
                        have B37 := Lib.hid (B36.out.trans (hb.mono B36.out.size))
                        have S37 := Lib.hid (S36.out.below hb)
                        have K37 := Lib.hid (Bk.later K36.out hb)
                        have RB37 := Lib.hid (RB36.out.below hb)
                        have RQ37 := Lib.hid (RQ36.out.below hb)
                        have RT37 := Lib.hid (RT36.out.below hb)
                        clear B36 S36 K36 RB36 RQ36 RT36
                        clear hb
                        go_wp2_with fail
                        refine (ints_any At (some adb) 8 8 ct cbb br br w37 RT37.out RB37.out (by omega) (by omega)).mono ?_
                        rintro e w38 ⟨rfl, kq, hq⟩
                        rw [decide_eq_true (show br = br from rfl)]
                        have hb : Below w37.heap.size w37 w38 := by rw [hq]; exact below_dN _ _
                        clear hq
                        have B38 := Lib.hid (B37.out.trans (hb.mono B37.out.size))
                        have S38 := Lib.hid (S37.out.below hb)
                        have K38 := Lib.hid (Bk.later K37.out hb)
                        have RB38 := Lib.hid (RB37.out.below hb)
                        have RQ38 := Lib.hid (RQ37.out.below hb)
                        have RT38 := Lib.hid (RT37.out.below hb)
                        clear B37 S37 K37 RB37 RQ37 RT37
                        clear hb
                        go_wp2
                        go_ret
                        exact ⟨rfl, (HP8.out _ B38.out).2.1⟩
                  · have hcw : cw = [] := by rw [← HCW.out]; unfold crkW; rw [if_neg hc0]
                    have hn1 : nz = 0 := by rw [← HNL.out, hcw]; rfl
                    subst hn1
                    have hcI : c < 0 := by omega
                    clear hcw
                    have c10 : w25.cell? ⟨w.heap.size, 10, none⟩ = some (.int .i64 c) := by rw [(HP8.out _ B25.out).1.cell]; rfl
                    skip
                    go_wp2_with fail
                    refine (copy8 (some adl) cl l HLN.out w25 (fun e => by cases e) RL25.out).mono ?_
                    rintro e w26 ⟨⟨Ay, cy, rfl, hy1, hy2⟩, hb⟩
                    clear hcI c10
                    have B26 := Lib.hid (B25.out.trans (hb.mono B25.out.size))
                    have S26 := Lib.hid (S25.out.below hb)
                    have K26 := Lib.hid (Bk.later K25.out hb)
                    have RL26 := Lib.hid (RL25.out.below hb)
                    have RZ26 := Lib.hid (RZ25.out.below hb)
                    clear B25 S25 K25 RL25 RZ25
                    have RY26 := Lib.hid (hy1)
                    clear hb hy1
                    clear hy2
                    have ho0 : Hid ((w26.alloc (.cells #[] 51)).ownsRow w26.heap.size 51 2 (.slice (some ⟨w26.heap.size, 0, none⟩) 0 0) 0 ([] : List Value)) := World.ownsRow_lit w26 #[] 0 (Nat.le_refl _) (by unfold maxLen; omega) rfl
                    have HSR : Hid (∀ ad, Az = some ad → ∀ j u, (pairCells cw)[j]? = some u → (w26.alloc (.cells #[] 51)).cell? (ad.add j) = some u) := fun ad e j u hu => ranges_src RZ26.out HAZ.out HNL.out e j u hu
                    have hnz1 : (0 : Nat) ≤ 1 := by omega
                    obtain ⟨i0, hi0, hz0, hz1, hz2⟩ := info_parts rngInfo
                    go_wp2_with (at_builtin; refine wpList_append_both rfl (.tmp 262) (.tmp 263) 67 rfl w26.heap.size 51 i0 _ 2 16 Tryz.underlying67 hi0 hz0 hz1 hz2 rfl (by decide) _ _ _ rfl ho0.out Az 0 cz (pairCells cw) rfl (fun e => ⟨rfl, (HNZ.out e).2⟩) HPC.out HSR.out HPO.out (by unfold maxLen; omega) (by omega) (by simp) ?_)
                    intro v' w27 hown hgrow hnil
                    have hb : Below w26.heap.size w26 w27 := ((Below.refl _ _).alloc (Nat.le_refl _) _).grown hgrow (by simp) (fun z e => (ho0.out.lt z e).1)
                    obtain ⟨gb, cb, rfl⟩ := app_some hown (by first | exact hnil | exact fun e => by cases (hnil.1 e).1)
                    try rw [Nat.zero_add] at hown
                    try rw [List.nil_append] at hown
                    have hrb := rdR_of_own hown HNL.out
                    try rw [Nat.zero_add]
                    have B27 := Lib.hid (B26.out.trans (hb.mono B26.out.size))
                    have S27 := Lib.hid (S26.out.below hb)
                    have K27 := Lib.hid (Bk.later K26.out hb)
                    have RL27 := Lib.hid (RL26.out.below hb)
                    have RZ27 := Lib.hid (RZ26.out.below hb)
                    have RY27 := Lib.hid (RY26.out.below hb)
                    clear B26 S26 K26 RL26 RZ26 RY26
                    have RG27 := Lib.hid (hrb)
                    clear hb hown hgrow hnil hrb ho0 HSR hi0 hz0 hz1 hz2
                    have CBr := Lib.hid (Bridged_any Ay 8 cy gb 0 cb l cw w27 RY27.out RG27.out (by omega) (by omega))
                    rw [HB0.out, HBR.out] at CBr
                    go_wp2_with fail
                    refine (CBr.out).mono ?_
                    rintro e w28 ⟨⟨vb, rfl, hob⟩, hb⟩
                    clear CBr
                    have B28 := Lib.hid (B27.out.trans (hb.mono B27.out.size))
                    have S28 := Lib.hid (S27.out.below hb)
                    have K28 := Lib.hid (Bk.later K27.out hb)
                    have RL28 := Lib.hid (RL27.out.below hb)
                    have RZ28 := Lib.hid (RZ27.out.below hb)
                    have RY28 := Lib.hid (RY27.out.below hb)
                    have RG28 := Lib.hid (RG27.out.below hb)
                    clear B27 S27 K27 RL27 RZ27 RY27 RG27
                    clear hb
                    clear RY28
                    clear RG28
                    clear RZ28
                    clear RL28
                    obtain ⟨Ab, cbb, rfl, _, hrb, hnb⟩ := rd_ownN (n := br.length) hob
                    rw [HB1.out] at hrb hnb ⊢
                    clear hob hnb
                    obtain ⟨adb, rfl, _, _⟩ := hrb.2 (by omega)
                    have RB28 := Lib.hid (hrb)
                    clear hrb
                    have CPE := Lib.hid (refPosErr_any (some adb) 8 cbb br w28 RB28.out (by omega))
                    rw [HB2.out] at CPE
                    go_wp2_with fail
                    refine (CPE.out).mono ?_
                    rintro e wE ⟨rfl, hww⟩
                    obtain rfl := hww
                    clear CPE
                    go_wp2
                    try rw [show ((8 : Nat) : Int) = 8 from rfl]
                    skip
                    go_loopw [25] (fun i wr => ∃ k : Nat, k ≤ 8 ∧ i = .int .i64 (k : Int) ∧ Hid (Below w28.heap.size w28 wr)) (fun i _ => 8 - (intOf i).toNat)
                    case atStart => exact ⟨0, Nat.zero_le _, rfl, Below.refl _ _⟩
                    case round =>
                      obtain ⟨k, hk, rfl, HX⟩ := hrel
                      have hbk := (HP8.out _ (B28.out.trans (HX.out.mono B28.out.size))).1
                      by_cases hlt : k < 8
                      · have hltI : (k : Int) < 8 := by omega
                        have hB : Hid (∀ q, Below w28.heap.size w28 (wr.drewN q)) := fun q => HX.out.trans ((below_dN wr q).mono HX.out.size)
                        have c10 : wr.cell? ⟨w.heap.size, 10, none⟩ = some (.int .i64 c) := by rw [hbk.cell]; rfl
                        by_cases hkc : (k : Int) = c
                        · have hkb : ((k : Int) != c) = false := by simpa using hkc
                          clear hkc hbk
                          go_wp2_with fail
                          go_quiet (fail)
                          go_wp2
                          go_roundw
                          case rel => exact ⟨k + 1, by omega, by go_num, hB.out _⟩
                          case measure => simp [intOf]; omega
                        · have hkb : ((k : Int) != c) = true := by simpa using hkc
                          have ck : wr.cell? ⟨w.heap.size, k, none⟩ = some (.int .i64 (R k)) := by rw [hbk.cell]; exact gdRow_at R L b c k hlt
                          have hrl := RB28.out.below HX.out
                          obtain ⟨ad', e', _, hcl⟩ := hrl.2 (by omega)
                          cases e'
                          have cl1 := hcl k hlt
                          rw [HB3.out k hlt hkc] at cl1
                          have hrb := HRR.out.bd k hlt
                          obtain ⟨rk, hrk⟩ : ∃ z, R k = z := ⟨_, rfl⟩
                          rw [hrk] at ck cl1 hrb
                          have wr0 : IntKind.i64.wrap (rk - 1) = rk - 1 := IntWalk.i64_in _ (by omega)
                          obtain ⟨rj, hrj⟩ : ∃ z, rk - 1 = z := ⟨_, rfl⟩
                          rw [hrj] at cl1
                          have wr1 : IntKind.i64.wrap (rk - 1) = rj := wr0.trans hrj
                          clear wr0
                          have hjj : (rj != rj) = false := bne_self_eq_false' _
                          clear hkc hbk hrk hcl hrl hrb hrj
                          go_wp2_with fail
                          go_quiet (fail)
                          go_wp2
                          go_roundw
                          case rel => exact ⟨k + 1, by omega, by go_num, hB.out _⟩
                          case measure => simp [intOf]; omega
                      · obtain rfl : k = 8 := by omega
                        obtain ⟨w29, hw⟩ : ∃ W, W = wr := ⟨_, rfl⟩
                        subst hw
                        have hb := HX.out
                        have B29 := Lib.hid (B28.out.trans (hb.mono B28.out.size))
                        have S29 := Lib.hid (S28.out.below hb)
                        have K29 := Lib.hid (Bk.later K28.out hb)
                        have RB29 := Lib.hid (RB28.out.below hb)
                        clear B28 S28 K28 RB28
                        clear hb HX hlt hbk
                        try rw [show ((8 : Nat) : Int) = 8 from rfl]
                        go_wp2_with fail
                        refine (copy8 (some adb) cbb br HB1.out w29 (fun e => by cases e) RB29.out).mono ?_
                        rintro e w30 ⟨⟨Ay, cy, rfl, hy1, hy2⟩, hb⟩
                        have B30 := Lib.hid (B29.out.trans (hb.mono B29.out.size))
                        have S30 := Lib.hid (S29.out.below hb)
                        have K30 := Lib.hid (Bk.later K29.out hb)
                        have RB30 := Lib.hid (RB29.out.below hb)
                        clear B29 S29 K29 RB29
                        have RY30 := Lib.hid (hy1)
                        clear hb hy1
                        clear hy2
                        have CV := Lib.hid (VelocitiesOf_any Ay 8 cy br w30 RY30.out (by omega))
                        rw [HK0.out, HVL.out] at CV
                        go_wp2_with fail
                        refine (CV.out).mono ?_
                        rintro e w31 ⟨⟨vv, rfl, hov⟩, hb⟩
                        clear CV
                        have B31 := Lib.hid (B30.out.trans (hb.mono B30.out.size))
                        have S31 := Lib.hid (S30.out.below hb)
                        have K31 := Lib.hid (Bk.later K30.out hb)
                        have RB31 := Lib.hid (RB30.out.below hb)
                        have RY31 := Lib.hid (RY30.out.below hb)
                        clear B30 S30 K30 RB30 RY30
                        clear hb
                        clear RY31
                        obtain ⟨Av, cv, rfl, _, hrv, _⟩ := rd_ownN (n := vl.length) hov
                        rw [HK1.out] at hrv ⊢
                        clear hov
                        have RV31 := Lib.hid (hrv)
                        clear hrv
                        obtain ⟨x0, hx0⟩ : ∃ x, br.getD 0 0 = x := ⟨_, rfl⟩
                        obtain ⟨ad', e', _, hcl⟩ := RB31.out.2 (by omega)
                        cases e'
                        have bz := hcl 0 (by omega)
                        rw [hx0] at bz
                        have bz2 := bz
                        rw [addZ] at bz2
                        have CP := Lib.hid (PositionsOf_any x0 Av 7 cv vl w31 RV31.out (by omega))
                        have HK2' := HK2.out
                        have HK3' := HK3.out
                        rw [hx0] at HK2' HK3'
                        rw [HK2', HK3'] at CP
                        clear HK2' HK3' hcl hx0
                        go_wp2_with fail
                        refine (CP.out).mono ?_
                        rintro e w32 ⟨⟨vq, rfl, hoq⟩, hb⟩
                        clear CP bz bz2
                        have B32 := Lib.hid (B31.out.trans (hb.mono B31.out.size))
                        have S32 := Lib.hid (S31.out.below hb)
                        have K32 := Lib.hid (Bk.later K31.out hb)
                        have RB32 := Lib.hid (RB31.out.below hb)
                        have RV32 := Lib.hid (RV31.out.below hb)
                        clear B31 S31 K31 RB31 RV31
                        clear hb
                        clear RV32
                        obtain ⟨Aq, cq, rfl, _, hrq, _⟩ := rd_ownN (n := br.length) hoq
                        rw [HB1.out] at hrq ⊢
                        clear hoq
                        have RQ32 := Lib.hid (hrq)
                        clear hrq
                        go_wp2_with fail
                        refine (copy8 (some adb) cbb br HB1.out w32 (fun e => by cases e) RB32.out).mono ?_
                        rintro e w33 ⟨⟨Ay, cy, rfl, hy1, hy2⟩, hb⟩
                        have B33 := Lib.hid (B32.out.trans (hb.mono B32.out.size))
                        have S33 := Lib.hid (S32.out.below hb)
                        have K33 := Lib.hid (Bk.later K32.out hb)
                        have RB33 := Lib.hid (RB32.out.below hb)
                        have RQ33 := Lib.hid (RQ32.out.below hb)
                        clear B32 S32 K32 RB32 RQ32
                        have RY33 := Lib.hid (hy1)
                        clear hb hy1
                        clear hy2
                        obtain ⟨hbl, hbd⟩ := pos_ok HB2.out
                        have hI64 : I64 br := fun x hx => by have := hbd x hx; omega
                        obtain ⟨TX, hTX⟩ : ∃ t, (⟨(joinP br).toArray⟩ : ByteArray) = t := ⟨_, rfl⟩
                        have CF := Lib.hid (formatPath_any Ay 8 cy br w33 (HP8.out _ B33.out).2.2 RY33.out (by omega) hI64)
                        have hTz : TX.size ≤ 5000 := by rw [← hTX, bytes_size]; have := joinP_len br hI64; omega
                        have HPT : Hid (ppE TX = 0 ∧ ppL TX = br) := by show _ ∧ _; unfold ppE ppL; rw [← hTX, pathS_join br HB2.out hbd hbl]; exact ⟨rfl, rfl⟩
                        rw [hTX] at CF
                        clear hbl hbd hI64 hTX
                        go_wp2_with fail
                        refine (CF.out).mono ?_
                        rintro e w34 ⟨rfl, hb⟩
                        clear CF
                        have B34 := Lib.hid (B33.out.trans (hb.mono B33.out.size))
                        have S34 := Lib.hid (S33.out.below hb)
                        have K34 := Lib.hid (Bk.later K33.out hb)
                        have RB34 := Lib.hid (RB33.out.below hb)
                        have RQ34 := Lib.hid (RQ33.out.below hb)
                        have RY34 := Lib.hid (RY33.out.below hb)
                        clear B33 S33 K33 RB33 RQ33 RY33
                        clear hb
                        clear RY34
                        have CPP := Lib.hid (parsePath_any TX w34 (HP8.out _ B34.out).2.2 (by omega))
                        rw [HPT.out.1, HPT.out.2] at CPP
                        go_wp2_with fail
                        refine (CPP.out).mono ?_
                        rintro e w35 ⟨⟨vt, rfl, hot⟩, hb⟩
                        clear CPP
                        have B35 := Lib.hid (B34.out.trans (hb.mono B34.out.size))
                        have S35 := Lib.hid (S34.out.below hb)
                        have K35 := Lib.hid (Bk.later K34.out hb)
                        have RB35 := Lib.hid (RB34.out.below hb)
                        have RQ35 := Lib.hid (RQ34.out.below hb)
                        clear B34 S34 K34 RB34 RQ34
                        clear hb
                        obtain ⟨At, ct, rfl, _, hrt, _⟩ := rd_ownN (n := br.length) hot
                        rw [HB1.out] at hrt ⊢
                        clear hot
                        have RT35 := Lib.hid (hrt)
                        clear hrt
                        go_wp2_with fail
                        refine (ints_any Aq (some adb) 8 8 cq cbb br br w35 RQ35.out RB35.out (by omega) (by omega)).mono ?_
                        rintro e w36 ⟨rfl, kq, hq⟩
                        rw [decide_eq_true (show br = br from rfl)]
                        have hb : Below w35.heap.size w35 w36 := by rw [hq]; exact below_dN _ _
                        clear hq
                        have B36 := Lib.hid (B35.out.trans (hb.mono B35.out.size))
                        have S36 := Lib.hid (S35.out.below hb)
                        have K36 := Lib.hid (Bk.later K35.out hb)
                        have RB36 := Lib.hid (RB35.out.below hb)
                        have RQ36 := Lib.hid (RQ35.out.below hb)
                        have RT36 := Lib.hid (RT35.out.below hb)
                        clear B35 S35 K35 RB35 RQ35 RT35
                        clear hb
                        go_wp2_with fail
                        refine (ints_any At (some adb) 8 8 ct cbb br br w36 RT36.out RB36.out (by omega) (by omega)).mono ?_
                        rintro e w37 ⟨rfl, kq, hq⟩
                        rw [decide_eq_true (show br = br from rfl)]
                        have hb : Below w36.heap.size w36 w37 := by rw [hq]; exact below_dN _ _
                        clear hq
                        have B37 := Lib.hid (B36.out.trans (hb.mono B36.out.size))
                        have S37 := Lib.hid (S36.out.below hb)
                        have K37 := Lib.hid (Bk.later K36.out hb)
                        have RB37 := Lib.hid (RB36.out.below hb)
                        have RQ37 := Lib.hid (RQ36.out.below hb)
                        have RT37 := Lib.hid (RT36.out.below hb)
                        clear B36 S36 K36 RB36 RQ36 RT36
                        clear hb
                        go_wp2
                        go_ret
                        exact ⟨rfl, (HP8.out _ B37.out).2.1⟩
end Go.Proofs.YtjjflbnopphciaaGreatDoor
