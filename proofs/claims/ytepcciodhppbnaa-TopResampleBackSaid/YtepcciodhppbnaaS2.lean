import Derived.Test.YtepcciodhppbnaaS1
import Derived.Test.YtepcciodhppbnaaS9

namespace Go.Proofs.Ytepcciodhppbnaa
open Go.RowKit

/-! ### the positions at times of a map -/
theorem holdsT_no {t : Int} {ns : List (Int × Int)} {x : Nat} (h : t < (ns.getD x (0, 0)).2 ∨ (ns.getD (x + 1) (0, 0)).2 < t) : holdsT t ns x = false := by
  unfold holdsT
  rw [Bool.and_eq_false_iff]
  rcases h with h | h
  · exact .inl (decide_eq_false (by omega))
  · exact .inr (decide_eq_false (by omega))
theorem holdsT_yes {t : Int} {ns : List (Int × Int)} {x : Nat} (h1 : (ns.getD x (0, 0)).2 ≤ t) (h2 : t ≤ (ns.getD (x + 1) (0, 0)).2) : holdsT t ns x = true := by
  unfold holdsT
  rw [decide_eq_true h1, decide_eq_true h2]; rfl
theorem posR_at {t : Int} {ns : List (Int × Int)} (hE : (mapR ns).2 = 0) {p : Nat} (hp : p + 1 < ns.length) (hbefore : ∀ j, j < p → (ns.getD (j + 1) (0, 0)).2 < t) (h1 : (ns.getD p (0, 0)).2 ≤ t) (h2 : t ≤ (ns.getD (p + 1) (0, 0)).2) :
    posR t ns = (posLo (ns.getD p (0, 0)).1 (ns.getD p (0, 0)).2 (ns.getD (p + 1) (0, 0)).1 (ns.getD (p + 1) (0, 0)).2 t, posHi (ns.getD p (0, 0)).1 (ns.getD p (0, 0)).2 (ns.getD (p + 1) (0, 0)).1 (ns.getD (p + 1) (0, 0)).2 t, 0) := by
  have hf : findP t ns 0 (ns.length - 1) = some (0 + p) := findP_some (fun x _ hx => holdsT_no (.inr (hbefore x (by omega)))) (by omega) (by rw [Nat.zero_add]; exact holdsT_yes h1 h2)
  rw [Nat.zero_add] at hf
  unfold posR
  rw [if_pos hE, hf]
theorem first_piece {t : Int} {ns : List (Int × Int)} : ∀ (k : Nat), 0 < k → k < ns.length → (ns.getD 0 (0, 0)).2 ≤ t → t ≤ (ns.getD k (0, 0)).2 → ∃ p, p + 1 ≤ k ∧ (∀ j, j < p → (ns.getD (j + 1) (0, 0)).2 < t) ∧ (ns.getD p (0, 0)).2 ≤ t ∧ t ≤ (ns.getD (p + 1) (0, 0)).2
  | 0, h, _, _, _ => absurd h (by omega)
  | k + 1, _, hk, h0, h1 => by
    by_cases hk0 : k = 0
    · subst hk0
      exact ⟨0, by omega, fun j hj => absurd hj (by omega), h0, h1⟩
    · by_cases h2 : t ≤ (ns.getD k (0, 0)).2
      · obtain ⟨p, hp, hb, ha, hc⟩ := first_piece k (by omega) (by omega) h0 h2
        exact ⟨p, by omega, hb, ha, hc⟩
      · by_cases hall : ∀ j, j < k → (ns.getD (j + 1) (0, 0)).2 < t
        · exact ⟨k, by omega, hall, by omega, h1⟩
        · have : ∃ j, j < k ∧ t ≤ (ns.getD (j + 1) (0, 0)).2 := by
            refine Classical.byContradiction fun h => hall fun j hj => ?_
            refine Classical.byContradiction fun h' => h ⟨j, hj, by omega⟩
          obtain ⟨j, hj, hj2⟩ := this
          obtain ⟨p, hp, hb, ha, hc⟩ := first_piece (j + 1) (by omega) (by omega) h0 hj2
          exact ⟨p, by omega, hb, ha, hc⟩
theorem posR_past {t : Int} {ns : List (Int × Int)} (hE : (mapR ns).2 = 0) (h : ∀ i, i + 1 < ns.length → (ns.getD (i + 1) (0, 0)).2 < t) : posR t ns = (0, 0, 2) := by
  have hf : findP t ns 0 (ns.length - 1) = none := findP_none (fun x _ hx => holdsT_no (.inr (h x (by omega))))
  unfold posR
  rw [if_pos hE, hf]
theorem nodes_le {ns : List (Int × Int)} (hok : nodesOk ns) : ∀ (k j : Nat), j + k < ns.length → (ns.getD j (0, 0)).2 ≤ (ns.getD (j + k) (0, 0)).2
  | 0, j, _ => Int.le_refl _
  | k + 1, j, h => by
    have h1 := nodes_le hok k j (by omega)
    have h2 := hok (j + k) (by omega)
    have : j + (k + 1) = j + k + 1 := by omega
    rw [this]
    omega
/-- The reference's position at a time of a valid map. -/
theorem refPosAt_any (A : Option Addr) (n c : Nat) (ns : List (Int × Int)) (t : Int) (w : World) (hr : RdP w A n ns) (hn : n ≤ 1000000) (hE : (mapR ns).2 = 0) (h0 : (ns.getD 0 (0, 0)).2 ≤ t) (h1 : t ≤ (ns.getD (n - 1) (0, 0)).2) :
    Calls Try.prog 48 #[.agg #[.slice A n c], .int .i64 t] w fun e w' => e = .returned (.agg #[.int .i64 (posR t ns).1, .int .i64 (posR t ns).2.1]) ∧ Below w.heap.size w w' ∧ (posR t ns).2.2 = 0 := by
  obtain ⟨hok, hl2, hl20⟩ := mapR_ok hE
  have hl := hr.1
  obtain ⟨ad, rfl, _, _⟩ := hr.2 (by omega)
  obtain ⟨p, hp, hb, ha, hc⟩ := first_piece (n - 1) (by omega) (by omega) h0 h1
  have hpr := posR_at hE (by omega) hb ha hc
  have hk := hok p (by omega)
  rw [hpr]
  obtain ⟨⟨a1, a2⟩, hxa⟩ : ∃ q, ns.getD p (0, 0) = q := ⟨_, rfl⟩
  obtain ⟨⟨b1, b2⟩, hxb⟩ : ∃ q, ns.getD (p + 1) (0, 0) = q := ⟨_, rfl⟩
  rw [hxa] at ha hk ⊢
  rw [hxb] at hc hk ⊢
  exact (refPositionAt_any n c ns t ad p w hr hn (by omega) hb a1 a2 b1 b2 hxa hxb ⟨hk.1.1, hk.1.2.1, hk.1.2.2⟩ ⟨hk.2.1, hk.2.2.1, hk.2.2.2⟩ ⟨ha, hc⟩).mono fun e w' h => ⟨h.1, h.2, rfl⟩

/-! ### the reference's positions -/
theorem nodF1 (a b : Int) (W : World) : (Instr.field 69 (.agg #[.int .i64 a, .int .i64 b]) 1).run Try.prog W = .ok (.int .i64 b) W := by kernel_rfl
theorem rngF0 (a b : Int) (W : World) : (Instr.field 72 (.agg #[.int .i64 a, .int .i64 b]) 0).run Try.prog W = .ok (.int .i64 a) W := by kernel_rfl
theorem pos_stop {opv : Nat → Int × Int} {last : Int} {k : Nat} (hk : k ≤ 2000) (h1 : ∀ i, i < k → goodAt opv last i) (h2 : ¬ goodAt opv last k) : posOut opv last = ((List.range k).map (fun i => (opv i).1), 0) := by
  have e : stopAt opv last 0 2001 = k := stopAt_eq (fun i _ hi => h1 i hi) (Nat.zero_le _) (by omega) (fun _ => h2)
  unfold posOut
  rw [e, if_neg (by omega)]
theorem pos_many {opv : Nat → Int × Int} {last : Int} (h1 : ∀ i, i < 2001 → goodAt opv last i) : posOut opv last = ([], 8) := by
  have e : stopAt opv last 0 2001 = 2001 := stopAt_eq (fun i _ hi => h1 i hi) (Nat.zero_le _) (by omega) (fun h => absurd h (by omega))
  unfold posOut
  rw [e, if_pos rfl]
/-- The positions found so far. -/
def posL (opv : Nat → Int × Int) (k : Nat) : List Int := (List.range k).map fun i => (opv i).1
theorem posL_len (opv : Nat → Int × Int) (k : Nat) : (posL opv k).length = k := by simp [posL]
theorem posL_succ (opv : Nat → Int × Int) (k : Nat) : posL opv (k + 1) = posL opv k ++ [(opv k).1] := by simp [posL, List.range_succ]
theorem ownResB_mk {w w' : World} {opv : Nat → Int × Int} {last : Int} {k : Nat} {v : Value} {L : List Int} {E : Int} (hp : posOut opv last = (L, E)) {b : Bool} (hb : b = decide (E = 0)) (hL : L.length = k) (ho : w'.ownsRow w.heap.size 3 1 v k (L.map (Value.int .i64))) (h2 : Below w.heap.size w w') :
    OwnResB w (decide ((posOut opv last).2 = 0)) (posOut opv last).1 (.returned (.tuple #[v, .bool b])) w' := by
  rw [hp, hb]
  subst hL
  exact ⟨⟨v, rfl, ho⟩, h2⟩
set_option maxRecDepth 100000 in
set_option maxHeartbeats 4000000 in
theorem refPositions0_any (d n q s : Int) (A : Option Addr) (m c : Nat) (cnt : Nat) (w : World) (hcnt : cnt ≤ 400) (hn : 1 ≤ n ∧ n ≤ 1000) (hq : 1 ≤ q ∧ q ≤ 1000) :
    Calls Try.prog 19 #[.agg #[.int .i64 0, .int .i64 d, .int .i64 n, .int .i64 q, .int .i64 s, .slice A m c], .int .i64 cnt] w (OwnResB w (decide ((posOut (opR0 n q) (64 * ((cnt : Int) - 1))).2 = 0)) (posOut (opR0 n q) (64 * ((cnt : Int) - 1))).1) := by
  have hv0 : ∀ k : Nat, opR0 n q k = (64 * (k : Int) * n / q, 0) := fun k => rfl
  obtain ⟨opv, hopv⟩ : ∃ f, opR0 n q = f := ⟨_, rfl⟩
  rw [hopv] at hv0 ⊢
  have HV := Lib.hid hv0
  have wc1 : IntKind.i64.wrap ((cnt : Int) - 1) = (cnt : Int) - 1 := IntWalk.i64_in _ (by omega)
  have wc2a : IntKind.i64.wrap (64 * ((cnt : Int) - 1)) = 64 * ((cnt : Int) - 1) := IntWalk.i64_in _ (by omega)
  obtain ⟨last, hlast⟩ : ∃ x, 64 * ((cnt : Int) - 1) = x := ⟨_, rfl⟩
  have wc2 : IntKind.i64.wrap (64 * ((cnt : Int) - 1)) = last := by rw [wc2a, hlast]
  rw [hlast] at ⊢
  clear hv0 hopv wc2a hlast
  obtain ⟨i0, hi0, hza, hzb, hzc⟩ := info_parts intInfo'
  have R0 := Lib.hid (OneB.start w 26 #[.int .i64 0, .int .i64 d, .int .i64 n, .int .i64 q, .int .i64 s, .slice A m c])
  go_enter Try.func19, Try.ntmps19
  go_wp2
  obtain ⟨W0, hW0⟩ : ∃ W, w.alloc (.cells #[.int .i64 0, .int .i64 d, .int .i64 n, .int .i64 q, .int .i64 s, .slice A m c] 26) = W := ⟨_, rfl⟩
  rw [hW0] at R0 ⊢
  have hW0s : w.heap.size ≤ W0.heap.size := R0.out.b.size
  have hW0l := R0.out.k.lt
  have HW0e : Hid (W0.heap.size = w.heap.size + 1) := Lib.hid (by rw [← hW0]; simp)
  clear hW0
  go_loopw [6, 7] (fun o i wr => ∃ (k : Nat) (X : Option Addr) (cx : Nat), k ≤ 2000 ∧ i = .int .i64 k ∧ o = .slice X k cx ∧ Hid (wr.ownsRow W0.heap.size 3 1 (.slice X k cx) k ((posL opv k).map (Value.int .i64))) ∧ Hid (OneB w w.heap.size 26 #[.int .i64 0, .int .i64 d, .int .i64 n, .int .i64 q, .int .i64 s, .slice A m c] wr) ∧ Hid (∀ i, i < k → goodAt opv last i)) (fun _ i _ => 2001 - (intOf i).toNat)
  case atStart => exact ⟨0, none, 0, by omega, rfl, rfl, Lib.hid (World.ownsRow_nil _ _ _ _), R0, Lib.hid (fun i h => absurd h (by omega))⟩
  case round =>
    obtain ⟨k, X, cx, hk, rfl, rfl, HO, RW, HG⟩ := hrel
    obtain ⟨c0, c1, c2, c3, c4, c5⟩ := RW.out.six
    have hm := mulB (a := 64 * (k : Int)) (b := n) 128000 1000 (by omega) (by omega) (by omega) (by omega) 128000000 (by omega)
    have h1 : IntKind.i64.wrap (64 * (k : Int)) = 64 * (k : Int) := IntWalk.i64_in _ (by omega)
    have h2 : IntKind.i64.wrap (64 * (k : Int) * n) = 64 * (k : Int) * n := IntWalk.i64_in _ (by omega)
    have CF := Lib.hid (fun W => floor_any (64 * (k : Int) * n) q (by omega) (by omega) W)
    have hvk := HV.out k
    obtain ⟨p, hp⟩ : ∃ p, 64 * (k : Int) * n / q = p := ⟨_, rfl⟩
    rw [hp] at CF hvk
    have HOP : Hid ((opv k).1 = p) := Lib.hid (by rw [hvk])
    have HOE : Hid ((opv k).2 = 0) := Lib.hid (by rw [hvk])
    clear hp hvk hm
    go_wp2_with fail
    refine (CF.out _).mono ?_
    rintro e wT ⟨rfl, rfl⟩
    clear c0 c1 c2 c3 c4 c5
    have RT_ := RW
    by_cases hpl : last < p
    · have hps := pos_stop (opv := opv) (last := last) (k := k) (by omega) HG.out (fun h => by have := h.2; have := HOP.out; omega)
      have hplI : last < p := hpl
      have HP := Lib.hid hps
      clear hps
      go_wp2
      go_ret2
      exact ownResB_mk HP.out rfl (posL_len opv k) (ownMono HO.out (by omega)) RT_.out.b
    · have hgk : goodAt opv last k := ⟨HOE.out, by have := HOP.out; omega⟩
      by_cases hk2 : k = 2000
      · have hps := pos_many (opv := opv) (last := last) (fun i hi => by
          by_cases h : i < k
          · exact HG.out i h
          · obtain rfl : i = k := by omega
            exact hgk)
        have HP := Lib.hid hps
        have hkI : ((k : Int) == 2000) = true := by simp; omega
        clear hps hgk
        go_wp2
        go_ret2
        exact ownResB_mk HP.out rfl rfl (World.ownsRow_nil _ _ _ _) RT_.out.b
      · have hkI : ((k : Int) == 2000) = false := by simp; omega
        have HG2 : Hid (∀ i, i < k + 1 → goodAt opv last i) := Lib.hid (fun i hi => by
          by_cases h : i < k
          · exact HG.out i h
          · obtain rfl : i = k := by omega
            exact hgk)
        have hPS := posL_succ opv k
        rw [HOP.out] at hPS
        have HPS := Lib.hid hPS
        have hl63 : k + 1 ≤ maxLen := by simp only [maxLen]; omega
        have hwk : IntKind.i64.wrap ((k : Int) + 1) = (k : Int) + 1 := IntWalk.i64_in _ (by omega)
        have HAL := Lib.hid (HO.out.alloc (.cells #[.int .i64 p] 3))
        have HC1 := Lib.hid (cell_one_new wr (.int .i64 p) 3)
        have hbs : W0.heap.size ≤ (wr.alloc (.cells #[.int .i64 p] 3)).heap.size := by have := RT_.out.k.lt; have := HW0e.out; simp; omega
        clear hPS hgk
        go_wp2_with (at_builtin; refine wpList_append_own _ rfl (.tmp 53) (.tmp 55) 29 rfl W0.heap.size 3 i0 _ 1 8 Try.underlying29 hi0 hza hzb hzc rfl (by decide) _ k _ rfl HAL.out ⟨wr.heap.size, 0, none⟩ 1 1 [.int .i64 p] rfl rfl (cell_one_new _ _ _) (by simp [Value.oneCell']) hl63 (by omega) hbs ?_)
        intro v' w4 hown' hgrow _
        obtain ⟨g', cap', rfl⟩ := ownsRow_succ hown'
        have RT4 : Hid (OneB w w.heap.size 26 #[.int .i64 0, .int .i64 d, .int .i64 n, .int .i64 q, .int .i64 s, .slice A m c] w4) := Lib.hid ⟨(RT_.out.k.alloc _).grown hgrow (by intro e; have h := HAL.out.lt _ e.symm; omega), (RT_.out.b.alloc RT_.out.b.size _).grown hgrow (by have := RT_.out.b.size; simp; omega) (fun z e => by have := (HAL.out.lt z e).1; omega)⟩
        have HO4 : Hid (w4.ownsRow W0.heap.size 3 1 (.slice (some ⟨g', 0, none⟩) (k + 1) cap') (k + 1) ((posL opv (k + 1)).map (Value.int .i64))) := by
          refine Lib.hid ?_
          rw [HPS.out, List.map_append]
          exact hown'
        clear hown' hgrow HAL HC1
        go_wp2
        go_roundw
        case rel => exact ⟨k + 1, some ⟨g', 0, none⟩, cap', by omega, by go_num, rfl, HO4, RT4, HG2⟩
        case measure => simp [intOf]; omega

end Go.Proofs.Ytepcciodhppbnaa


namespace Go.Proofs.Ytepcciodhppbnaa
open Go.RowKit

set_option maxRecDepth 100000 in
set_option maxHeartbeats 4000000 in
theorem refPositions1_any (d n q s : Int) (A : Option Addr) (m c : Nat) (ns : List (Int × Int)) (cnt : Nat) (w : World) (hcnt : cnt ≤ 400) (hr : RdP w A m ns) (hm : m ≤ 1000000) (hs : 1 ≤ s ∧ s ≤ 1000000000000) (hE : (mapR ns).2 = 0) :
    Calls Try.prog 19 #[.agg #[.int .i64 1, .int .i64 d, .int .i64 n, .int .i64 q, .int .i64 s, .slice A m c], .int .i64 cnt] w (OwnResB w (decide ((posOut (opR1 s ns) (64 * ((cnt : Int) - 1))).2 = 0)) (posOut (opR1 s ns) (64 * ((cnt : Int) - 1))).1) := by
  obtain ⟨hok, hl2, hl20⟩ := mapR_ok hE
  have hl := hr.1
  obtain ⟨⟨t1, t0⟩, ht0⟩ : ∃ x, ns.getD 0 (0, 0) = x := ⟨_, rfl⟩
  obtain ⟨⟨z1, tl⟩, htl⟩ : ∃ x, ns.getD (m - 1) (0, 0) = x := ⟨_, rfl⟩
  have hv0 : ∀ k : Nat, opR1 s ns k = ((posR (t0 + (k : Int) * s) ns).1, (posR (t0 + (k : Int) * s) ns).2.2) := fun k => by unfold opR1; rw [ht0]
  have hpast : ∀ t, tl < t → (posR t ns).2.2 = 2 := fun t ht => by
    rw [posR_past hE (fun i hi => by
      have := nodes_le hok (ns.length - 1 - (i + 1)) (i + 1) (by omega)
      rw [show i + 1 + (ns.length - 1 - (i + 1)) = m - 1 by omega, htl] at this
      exact Int.lt_of_le_of_lt this ht)]
  have hb0 : 0 ≤ t0 ∧ t0 ≤ 1000000000000 := by
    have := hok 0 (by omega)
    rw [ht0] at this
    simp at this; omega
  obtain ⟨opv, hopv⟩ : ∃ f, opR1 s ns = f := ⟨_, rfl⟩
  rw [hopv] at hv0 ⊢
  have HV := Lib.hid hv0
  have HPT := Lib.hid hpast
  have CFi := Lib.hid (fun W (h : RdP W A m ns) => refFirst_any m c ns A W h (by omega) hm t1 t0 ht0)
  have CLa := Lib.hid (fun W (h : RdP W A m ns) => refLast_any m c ns A W h (m - 1) (by omega) hm z1 tl htl)
  have CPo := Lib.hid (fun t W (h : RdP W A m ns) (h0 : t0 ≤ t) (h1 : t ≤ tl) => refPosAt_any A m c ns t W h hm hE (by rw [ht0]; exact h0) (by rw [htl]; exact h1))
  have wc1 : IntKind.i64.wrap ((cnt : Int) - 1) = (cnt : Int) - 1 := IntWalk.i64_in _ (by omega)
  have wc2a : IntKind.i64.wrap (64 * ((cnt : Int) - 1)) = 64 * ((cnt : Int) - 1) := IntWalk.i64_in _ (by omega)
  obtain ⟨last, hlast⟩ : ∃ x, 64 * ((cnt : Int) - 1) = x := ⟨_, rfl⟩
  have wc2 : IntKind.i64.wrap (64 * ((cnt : Int) - 1)) = last := by rw [wc2a, hlast]
  rw [hlast] at ⊢
  clear hv0 hopv wc2a hlast hpast ht0 htl hok hl2 hl20 hl hE
  obtain ⟨i0, hi0, hza, hzb, hzc⟩ := info_parts intInfo'
  have R0 := Lib.hid (OneB.start w 26 #[.int .i64 1, .int .i64 d, .int .i64 n, .int .i64 q, .int .i64 s, .slice A m c])
  have HR := Lib.hid hr
  clear hr
  go_enter Try.func19, Try.ntmps19
  go_wp2
  obtain ⟨W0, hW0⟩ : ∃ W, w.alloc (.cells #[.int .i64 1, .int .i64 d, .int .i64 n, .int .i64 q, .int .i64 s, .slice A m c] 26) = W := ⟨_, rfl⟩
  rw [hW0] at R0 ⊢
  have hW0s : w.heap.size ≤ W0.heap.size := R0.out.b.size
  have hW0l := R0.out.k.lt
  have HW0e : Hid (W0.heap.size = w.heap.size + 1) := Lib.hid (by rw [← hW0]; simp)
  clear hW0
  go_loopw [6, 7] (fun o i wr => ∃ (k : Nat) (X : Option Addr) (cx : Nat), k ≤ 2000 ∧ i = .int .i64 k ∧ o = .slice X k cx ∧ Hid (wr.ownsRow W0.heap.size 3 1 (.slice X k cx) k ((posL opv k).map (Value.int .i64))) ∧ Hid (OneB w w.heap.size 26 #[.int .i64 1, .int .i64 d, .int .i64 n, .int .i64 q, .int .i64 s, .slice A m c] wr) ∧ Hid (∀ i, i < k → goodAt opv last i)) (fun _ i _ => 2001 - (intOf i).toNat)
  case atStart => exact ⟨0, none, 0, by omega, rfl, rfl, Lib.hid (World.ownsRow_nil _ _ _ _), R0, Lib.hid (fun i h => absurd h (by omega))⟩
  case round =>
    obtain ⟨k, X, cx, hk, rfl, rfl, HOv, RW, HG⟩ := hrel
    have hmu := mulB (a := (k : Int)) (b := s) 2000 1000000000000 (by omega) (by omega) (by omega) (by omega) 2000000000000000 (by omega)
    have hm0 : 0 ≤ (k : Int) * s := Int.mul_nonneg (by omega) (by omega)
    have h1 : IntKind.i64.wrap ((k : Int) * s) = (k : Int) * s := IntWalk.i64_in _ (by omega)
    have h2a : IntKind.i64.wrap (t0 + (k : Int) * s) = t0 + (k : Int) * s := IntWalk.i64_in _ (by omega)
    have hvk := HV.out k
    obtain ⟨t, htt⟩ : ∃ t, t0 + (k : Int) * s = t := ⟨_, rfl⟩
    have h2 : IntKind.i64.wrap (t0 + (k : Int) * s) = t := by rw [h2a, htt]
    have ht0t : t0 ≤ t := by omega
    rw [htt] at hvk
    clear h2a htt hmu hm0
    have hf1 := nodF1 t1 t0
    obtain ⟨c0, c1, c2, c3, c4, c5⟩ := RW.out.six
    go_wp2
    go_region_held3 (fun w' : World => (w'.cell? ⟨w.heap.size, 0, none⟩ = some (.int .i64 1) ∧ w'.cell? ⟨w.heap.size, 1, none⟩ = some (.int .i64 d) ∧ w'.cell? ⟨w.heap.size, 2, none⟩ = some (.int .i64 n) ∧ w'.cell? ⟨w.heap.size, 3, none⟩ = some (.int .i64 q) ∧ w'.cell? ⟨w.heap.size, 4, none⟩ = some (.int .i64 s) ∧ w'.cell? ⟨w.heap.size, 5, none⟩ = some (.slice A m c)) ∧ OneB w w.heap.size 26 #[.int .i64 1, .int .i64 d, .int .i64 n, .int .i64 q, .int .i64 s, .slice A m c] w') ((refine (fun hI => ⟨OneB.six hI, hI⟩) ?_; first | assumption | exact RW.out.drew | (repeat (first | assumption | refine OneB.drew ?_))))
      ((go_at_call 38; refine (CFi.out _ (HR.out.below RW.out.drew.b)).mono ?_; rintro e w3 ⟨rfl, hb3⟩; have hI3 := OneB.later hb3 RW.out.drew))
    all_goals
      have R3 := Lib.hid hI3
      have HO3 := Lib.hid (ownBelow HOv.out.drew hb3)
      clear hb3 hI3 hf1 HOv c0 c1 c2 c3 c4 c5
      obtain ⟨c0, c1, c2, c3, c4, c5⟩ := R3.out.six
      have hf2 := nodF1 z1 tl
      go_wp2_with fail
      refine (CLa.out _ (HR.out.below R3.out.b)).mono ?_
      rintro e w5 ⟨rfl, hb5⟩
      have R5 := Lib.hid (OneB.later hb5 R3.out)
      have HO5 := Lib.hid (ownBelow HO3.out hb5)
      clear hb5 R3 HO3 RW c0 c1 c2 c3 c4 c5
      by_cases htl2 : tl < t
      · have hps := pos_stop (opv := opv) (last := last) (k := k) (by omega) HG.out (fun h => by have h3 := h.1; rw [hvk] at h3; have := HPT.out t htl2; simp only at h3; omega)
        have HP := Lib.hid hps
        clear hps hvk
        go_wp2
        go_ret2
        exact ownResB_mk HP.out rfl (posL_len opv k) (ownMono HO5.out (by omega)) R5.out.b
      · obtain ⟨c0, c1, c2, c3, c4, c5⟩ := R5.out.six
        have CP := Lib.hid (CPo.out t w5 (HR.out.below R5.out.b) ht0t (by omega))
        obtain ⟨⟨p, hi, er⟩, hpr⟩ : ∃ x, posR t ns = x := ⟨_, rfl⟩
        rw [hpr] at CP hvk
        have hf3 := rngF0 p hi
        have HVK := Lib.hid hvk
        clear hpr hvk
        go_wp2_with fail
        refine CP.out.mono ?_
        rintro e w6 ⟨rfl, hb6, her⟩
        have HOP : Hid ((opv k).1 = p) := Lib.hid (by rw [HVK.out])
        have HOE : Hid ((opv k).2 = 0) := Lib.hid (by rw [HVK.out]; exact her)
        have RT_ := Lib.hid (OneB.later hb6 R5.out)
        have HO := Lib.hid (ownBelow HO5.out hb6)
        clear hb6 R5 HO5 c0 c1 c2 c3 c4 c5 CP her
        by_cases hpl : last < p
        · have hps := pos_stop (opv := opv) (last := last) (k := k) (by omega) HG.out (fun h => by have := h.2; have := HOP.out; omega)
          have hplI : last < p := hpl
          have HP := Lib.hid hps
          clear hps
          go_wp2
          go_ret2
          exact ownResB_mk HP.out rfl (posL_len opv k) (ownMono HO.out (by omega)) RT_.out.b
        · have hgk : goodAt opv last k := ⟨HOE.out, by have := HOP.out; omega⟩
          by_cases hk2 : k = 2000
          · have hps := pos_many (opv := opv) (last := last) (fun i hi => by
              by_cases h : i < k
              · exact HG.out i h
              · obtain rfl : i = k := by omega
                exact hgk)
            have HP := Lib.hid hps
            have hkI : ((k : Int) == 2000) = true := by simp; omega
            clear hps hgk
            go_wp2
            go_ret2
            exact ownResB_mk HP.out rfl rfl (World.ownsRow_nil _ _ _ _) RT_.out.b
          · have hkI : ((k : Int) == 2000) = false := by simp; omega
            have HG2 : Hid (∀ i, i < k + 1 → goodAt opv last i) := Lib.hid (fun i hi => by
              by_cases h : i < k
              · exact HG.out i h
              · obtain rfl : i = k := by omega
                exact hgk)
            have hPS := posL_succ opv k
            rw [HOP.out] at hPS
            have HPS := Lib.hid hPS
            have hl63 : k + 1 ≤ maxLen := by simp only [maxLen]; omega
            have hwk : IntKind.i64.wrap ((k : Int) + 1) = (k : Int) + 1 := IntWalk.i64_in _ (by omega)
            have HAL := Lib.hid (HO.out.alloc (.cells #[.int .i64 p] 3))
            have HC1 := Lib.hid (cell_one_new w6 (.int .i64 p) 3)
            have hbs : W0.heap.size ≤ (w6.alloc (.cells #[.int .i64 p] 3)).heap.size := by have := RT_.out.k.lt; have := HW0e.out; simp; omega
            clear hPS hgk
            go_wp2_with (at_builtin; refine wpList_append_own _ rfl (.tmp 53) (.tmp 55) 29 rfl W0.heap.size 3 i0 _ 1 8 Try.underlying29 hi0 hza hzb hzc rfl (by decide) _ k _ rfl HAL.out ⟨w6.heap.size, 0, none⟩ 1 1 [.int .i64 p] rfl rfl (cell_one_new _ _ _) (by simp [Value.oneCell']) hl63 (by omega) hbs ?_)
            intro v' w4 hown' hgrow _
            obtain ⟨g', cap', rfl⟩ := ownsRow_succ hown'
            have RT4 : Hid (OneB w w.heap.size 26 #[.int .i64 1, .int .i64 d, .int .i64 n, .int .i64 q, .int .i64 s, .slice A m c] w4) := Lib.hid ⟨(RT_.out.k.alloc _).grown hgrow (by intro e; have h := HAL.out.lt _ e.symm; omega), (RT_.out.b.alloc RT_.out.b.size _).grown hgrow (by have := RT_.out.b.size; simp; omega) (fun z e => by have := (HAL.out.lt z e).1; omega)⟩
            have HO4 : Hid (w4.ownsRow W0.heap.size 3 1 (.slice (some ⟨g', 0, none⟩) (k + 1) cap') (k + 1) ((posL opv (k + 1)).map (Value.int .i64))) := by
              refine Lib.hid ?_
              rw [HPS.out, List.map_append]
              exact hown'
            clear hown' hgrow HAL HC1
            go_wp2
            go_roundw
            case rel => exact ⟨k + 1, some ⟨g', 0, none⟩, cap', by omega, by go_num, rfl, HO4, RT4, HG2⟩
            case measure => simp [intOf]; omega

end Go.Proofs.Ytepcciodhppbnaa


namespace Go.Proofs.Ytepcciodhppbnaa
open Go.RowKit

/-- Rules that are copied. -/
def CpRul (w : World) (k d n q s : Int) (m : Nat) (ns : List (Int × Int)) (e : Ending) (w' : World) : Prop :=
  (∃ g c, e = .returned (.agg #[.int .i64 k, .int .i64 d, .int .i64 n, .int .i64 q, .int .i64 s, .slice (some ⟨g, 0, none⟩) m c]) ∧ RdN w' (some ⟨g, 0, none⟩) m ns ∧ m ≤ c) ∧ Below w.heap.size w w'
theorem bk6' {W : World} {g : Nat} {t : TypeId} {a b c d e f : Value} (h : Bk W g t #[a, b, c, d, e, f]) : (W.cell? ⟨g, 0, none⟩ = some a ∧ W.cell? ⟨g, 1, none⟩ = some b ∧ W.cell? ⟨g, 2, none⟩ = some c ∧ W.cell? ⟨g, 3, none⟩ = some d ∧ W.cell? ⟨g, 4, none⟩ = some e ∧ W.cell? ⟨g, 5, none⟩ = some f) ∧ W.frozen? ⟨g, 0, none⟩ = false ∧ W.frozen? ⟨g, 1, none⟩ = false ∧ W.frozen? ⟨g, 2, none⟩ = false ∧ W.frozen? ⟨g, 3, none⟩ = false ∧ W.frozen? ⟨g, 4, none⟩ = false ∧ W.frozen? ⟨g, 5, none⟩ = false :=
  ⟨⟨by rw [h.cell]; rfl, by rw [h.cell]; rfl, by rw [h.cell]; rfl, by rw [h.cell]; rfl, by rw [h.cell]; rfl, by rw [h.cell]; rfl⟩, h.frozen 0, h.frozen 1, h.frozen 2, h.frozen 3, h.frozen 4, h.frozen 5⟩
set_option maxRecDepth 100000 in
set_option maxHeartbeats 4000000 in
theorem copyRules_any (k d n q s : Int) (A : Option Addr) (m c : Nat) (ns : List (Int × Int)) (w : World) (hA : A = none → m = 0 ∧ c = 0) (hr : RdP w A m ns) (hm : m ≤ 1000000) :
    Calls Try.prog 15 #[.agg #[.int .i64 k, .int .i64 d, .int .i64 n, .int .i64 q, .int .i64 s, .slice A m c]] w (CpRul w k d n q s m ns) := by
  have B0 : Below w.heap.size w ((w.alloc (.cells #[.int .i64 k, .int .i64 d, .int .i64 n, .int .i64 q, .int .i64 s, .slice A m c] 26)).alloc (.cells #[.int .i64 0, .int .i64 0, .int .i64 0, .int .i64 0, .int .i64 0, .slice none 0 0] 26)) := below2 _ _ _
  have K0 : Bk ((w.alloc (.cells #[.int .i64 k, .int .i64 d, .int .i64 n, .int .i64 q, .int .i64 s, .slice A m c] 26)).alloc (.cells #[.int .i64 0, .int .i64 0, .int .i64 0, .int .i64 0, .int .i64 0, .slice none 0 0] 26)) w.heap.size 26 #[.int .i64 k, .int .i64 d, .int .i64 n, .int .i64 q, .int .i64 s, .slice A m c] := (Bk.new _ _ _).alloc _
  have R0 : Bk ((w.alloc (.cells #[.int .i64 k, .int .i64 d, .int .i64 n, .int .i64 q, .int .i64 s, .slice A m c] 26)).alloc (.cells #[.int .i64 0, .int .i64 0, .int .i64 0, .int .i64 0, .int .i64 0, .slice none 0 0] 26)) (w.heap.size + 1) 26 #[.int .i64 0, .int .i64 0, .int .i64 0, .int .i64 0, .int .i64 0, .slice none 0 0] := by simpa using Bk.new (w.alloc (.cells #[.int .i64 k, .int .i64 d, .int .i64 n, .int .i64 q, .int .i64 s, .slice A m c] 26)) 26 #[.int .i64 0, .int .i64 0, .int .i64 0, .int .i64 0, .int .i64 0, .slice none 0 0]
  have CC := Lib.hid (copyMap_any A m c ns ((w.alloc (.cells #[.int .i64 k, .int .i64 d, .int .i64 n, .int .i64 q, .int .i64 s, .slice A m c] 26)).alloc (.cells #[.int .i64 0, .int .i64 0, .int .i64 0, .int .i64 0, .int .i64 0, .slice none 0 0] 26)) hA (hr.below B0) hm)
  have c5 := (bk6 K0).2.2.2.2.2
  have HK := Lib.hid K0
  have HR := Lib.hid R0
  have HB := Lib.hid B0
  clear hA hr K0 R0 B0
  go_enter Try.func15, Try.ntmps15
  go_wp2_with fail
  refine CC.out.mono ?_
  rintro e w1 ⟨⟨g, c', rfl, hrd, hc', hgs⟩, hb⟩
  have hg2 : w.heap.size + 1 < g := by simp at hgs; omega
  have K1 := HK.out.later hb
  have R1 := HR.out.later hb
  have B1 := HB.out.trans (hb.mono HB.out.size)
  have hK1 := HK.out
  have hgb : ∀ m0, 0 < m → g ≠ m0 ∨ True := fun _ _ => .inr trivial
  obtain ⟨⟨d0, d1, d2, d3, d4, d5⟩, f0, f1, f2, f3, f4, f5⟩ := bk6' K1
  obtain ⟨⟨e0, e1, e2, e3, e4, e5⟩, h0, h1, h2, h3, h4, h5⟩ := bk6' R1
  have HD := Lib.hid hrd
  clear hgs hb c5 hgb hrd hK1 K1 R1
  go_wp2
  refine bodyPost_ret (v := .agg #[.int .i64 k, .int .i64 d, .int .i64 n, .int .i64 q, .int .i64 s, .slice (some ⟨g, 0, none⟩) m c']) (by simp [results, Try.results15, go_sem, e0, e1, e2, e3, e4, e5, h0, h1, h2, h3, h4, h5]) rfl ⟨⟨_, _, rfl, ?_, hc'⟩, ?_⟩
  · exact rdN_far (rdN_far (rdN_far (rdN_far (rdN_far (rdN_far (rdN_far HD.out _ (by simp; omega) _) _ (by simp; omega) _) _ (by simp; omega) _) _ (by simp; omega) _) _ (by simp; omega) _) _ (by simp; omega) _) _ (by simp; omega) _
  · go_grown
set_option maxRecDepth 100000 in
set_option maxHeartbeats 4000000 in
theorem PositionsOf_err (k d n q s : Int) (A : Option Addr) (m c : Nat) (cnt : Int) (E1 F : Int) (w : World) (hF : firstNZ [E1, rngE 0 400 [cnt]] = F) (hne : ¬ F = 0)
    (hcr : ∀ W, Below w.heap.size w W → Calls Try.prog 17 #[.agg #[.int .i64 k, .int .i64 d, .int .i64 n, .int .i64 q, .int .i64 s, .slice A m c]] W fun e w' => e = .returned (.int .i64 E1) ∧ Below W.heap.size W w') :
    Calls Try.prog 14 #[.agg #[.int .i64 k, .int .i64 d, .int .i64 n, .int .i64 q, .int .i64 s, .slice A m c], .int .i64 cnt] w (OwnRes w F []) := by
  have HCR := Lib.hid hcr
  have C3 := Lib.hid (fun x y w h1 h2 => from1_any cnt 0 400 x y w h1 h2)
  obtain ⟨E2, hE2⟩ : ∃ E, rngE 0 400 [cnt] = E := ⟨_, rfl⟩
  rw [hE2] at C3 hF
  have HF := Lib.hid hF
  have hFT := neT hne
  clear hcr hF hE2 hne
  go_enter Try.func14, Try.ntmps14
  go_wp2_with fail
  refine (HCR.out _ (by go_grown)).mono ?_
  rintro e w1 ⟨rfl, hb1⟩
  have R0 := Lib.hid (OneB.later hb1 (((OneB.start w 26 #[.int .i64 k, .int .i64 d, .int .i64 n, .int .i64 q, .int .i64 s, .slice A m c]).alloc (.cells #[.slice none 0 0] 29)).alloc (.cells #[.int .i64 0] 30)))
  have K4 : Hid (Bk w1 (w.heap.size + 1) 29 #[.slice none 0 0]) := Bk.later (by have h := (Bk.new (w.alloc (.cells #[.int .i64 k, .int .i64 d, .int .i64 n, .int .i64 q, .int .i64 s, .slice A m c] 26)) 29 #[.slice none 0 0]).alloc (.cells #[.int .i64 0] 30); simpa using h) hb1
  have K5 : Hid (Bk w1 (w.heap.size + 2) 30 #[.int .i64 0]) := Bk.later (by have h := Bk.new ((w.alloc (.cells #[.int .i64 k, .int .i64 d, .int .i64 n, .int .i64 q, .int .i64 s, .slice A m c] 26)).alloc (.cells #[.slice none 0 0] 29)) 30 #[.int .i64 0]; simpa using h) hb1
  clear hb1
  obtain ⟨c0, c1, c2, c3, c4, c5⟩ := R0.out.six
  go_wp2_with (first
    | (go_at_call 63; refine (from_any _ _ _).mono ?_; rintro e w' ⟨rfl, rfl⟩)
    | (go_at_call 117; refine (C3.out _ _ _ ?_ ?_).mono ?_; (focus (simp [go_sem])); (focus (simp [go_sem])); rintro e w' ⟨rfl, rfl⟩))
  refine (firstError2 HF.out _ _ ?_ ?_).mono ?_
  · simp [go_sem]
  · simp [go_sem]
  rintro e w' ⟨rfl, rfl⟩
  have R3 := Lib.hid (((R0.out.alloc (.cells #[.int .i64 0] 3)).alloc (.cells #[.int .i64 400] 3)).alloc (.cells #[.int .i64 E1, .int .i64 E2] 30))
  have K43 := Lib.hid (((K4.out.alloc (.cells #[.int .i64 0] 3)).alloc (.cells #[.int .i64 400] 3)).alloc (.cells #[.int .i64 E1, .int .i64 E2] 30))
  have K53 := Lib.hid (((K5.out.alloc (.cells #[.int .i64 0] 3)).alloc (.cells #[.int .i64 400] 3)).alloc (.cells #[.int .i64 E1, .int .i64 E2] 30))
  obtain ⟨W3, hW3⟩ : ∃ W3, (((w1.alloc (.cells #[.int .i64 0] 3)).alloc (.cells #[.int .i64 400] 3)).alloc (.cells #[.int .i64 E1, .int .i64 E2] 30)) = W3 := ⟨_, rfl⟩
  rw [hW3] at R3 K43 K53 ⊢
  clear hW3 R0 K4 K5 c0 c1 c2 c3 c4 c5
  obtain ⟨k4, f4⟩ := bk1 K43.out
  obtain ⟨k5, f5⟩ := bk1 K53.out
  have B3 := R3.out.b
  go_wp2
  refine bodyPost_ret (v := .tuple #[.slice none 0 0, .int .i64 F]) (by simp [results, Try.results14, go_sem, k4, f4, k5, f5]) rfl ⟨⟨_, rfl, World.ownsRow_nil _ _ _ _⟩, ?_⟩
  go_grown

end Go.Proofs.Ytepcciodhppbnaa


namespace Go.Proofs.Ytepcciodhppbnaa
open Go.RowKit

theorem RdP.drewN {w : World} {A : Option Addr} {n : Nat} {xs : List (Int × Int)} (h : RdP w A n xs) (k : Nat) : RdP (w.drewN k) A n xs := h
theorem RdP.drew {w : World} {A : Option Addr} {n : Nat} {xs : List (Int × Int)} (h : RdP w A n xs) : RdP w.drew A n xs := h
theorem RdN.drewN {w : World} {A : Option Addr} {n : Nat} {xs : List (Int × Int)} (h : RdN w A n xs) (k : Nat) : RdN (w.drewN k) A n xs := h
theorem RdN.drew {w : World} {A : Option Addr} {n : Nat} {xs : List (Int × Int)} (h : RdN w A n xs) : RdN w.drew A n xs := h
theorem stopAt_le (opv : Nat → Int × Int) (last : Int) : ∀ (k f : Nat), stopAt opv last k f ≤ k + f
  | k, 0 => Nat.le_refl _
  | k, f + 1 => by
    unfold stopAt
    split
    · have := stopAt_le opv last (k + 1) f; omega
    · omega
theorem firstNZ_zero3 {a b c : Int} (h : firstNZ [a, b, c] = 0) : a = 0 ∧ b = 0 ∧ c = 0 := by
  simp only [firstNZ] at h
  by_cases ha : a = 0
  · by_cases hb : b = 0
    · by_cases hc : c = 0
      · exact ⟨ha, hb, hc⟩
      · simp [ha, hb, hc] at h
    · simp [ha, hb] at h
  · simp [ha] at h
theorem firstNZ_zero2 {a b : Int} (h : firstNZ [a, b] = 0) : a = 0 ∧ b = 0 := by
  simp only [firstNZ] at h
  by_cases ha : a = 0
  · by_cases hb : b = 0
    · exact ⟨ha, hb⟩
    · simp [ha, hb] at h
  · simp [ha] at h
theorem rulC_zero {k d n q s : Int} {m : Nat} {ns : List (Int × Int)} (h : rulC k d n q s m ns = 0) : (d = 1 ∨ d = 3) ∧ ((k = 0 ∧ (1 ≤ n ∧ n ≤ 1000) ∧ (1 ≤ q ∧ q ≤ 1000) ∧ s = 0 ∧ m = 0) ∨ (k = 1 ∧ (mapR ns).2 = 0 ∧ (1 ≤ s ∧ s ≤ 1000000000000) ∧ n = 0 ∧ q = 0)) := by
  unfold rulC at h
  by_cases hk : k < 0 ∨ 2 ≤ k
  · rw [if_pos hk] at h; cases h
  rw [if_neg hk] at h
  by_cases hd : degE d = 0
  rotate_left
  · rw [if_neg hd] at h; exact absurd h hd
  rw [if_pos hd] at h
  have hd13 : d = 1 ∨ d = 3 := by
    unfold degE at hd
    by_cases h : d = 1 ∨ d = 3
    · exact h
    · rw [if_neg h] at hd; cases hd
  refine ⟨hd13, ?_⟩
  by_cases hk0 : k = 0
  · rw [if_pos hk0] at h
    obtain ⟨h1, h2⟩ := firstNZ_zero2 h
    rw [rngE_two] at h1
    by_cases h3 : 1 ≤ n ∧ n ≤ 1000 ∧ 1 ≤ q ∧ q ≤ 1000
    · by_cases h4 : s ≠ 0 ∨ 0 < m
      · rw [if_pos h4] at h2; cases h2
      · exact .inl ⟨hk0, by omega, by omega, by omega, by omega⟩
    · rw [if_neg h3] at h1; cases h1
  · rw [if_neg hk0] at h
    obtain ⟨h1, h2, h3⟩ := firstNZ_zero3 h
    rw [rngE_one] at h2
    by_cases h4 : 1 ≤ s ∧ s ≤ 1000000000000
    · by_cases h5 : n ≠ 0 ∨ q ≠ 0
      · rw [if_pos h5] at h3; cases h3
      · exact .inr ⟨by omega, h1, h4, by omega, by omega⟩
    · rw [if_neg h4] at h2; cases h2
set_option maxRecDepth 100000 in
set_option maxHeartbeats 4000000 in
theorem rcw_far (k d n q s : Int) (A : Option Addr) (m c : Nat) (ns : List (Int × Int)) (cnt : Int) (w : World) (hm : ¬ m ≤ 22) (hr : RdP w A m ns) (hA : A = none → m = 0 ∧ c = 0)
    : Calls Try.prog 3 #[.agg #[.int .i64 k, .int .i64 d, .int .i64 n, .int .i64 q, .int .i64 s, .slice A m c], .int .i64 cnt] w fun e w' => e = .returned (.bool true) ∧ Below w.heap.size w w' := by
  have CFw := Lib.hid (fun W => few_any A m c W)
  rw [decide_eq_false hm] at CFw
  have X0 := Lib.hid (hr.below (below1 w (.cells #[.int .i64 k, .int .i64 d, .int .i64 n, .int .i64 q, .int .i64 s, .slice A m c] 26)))
  have K0 := Lib.hid (Bk.new w 26 #[.int .i64 k, .int .i64 d, .int .i64 n, .int .i64 q, .int .i64 s, .slice A m c])
  have B0 := Lib.hid (below1 w (.cells #[.int .i64 k, .int .i64 d, .int .i64 n, .int .i64 q, .int .i64 s, .slice A m c] 26))
  clear hr hA
  go_enter Try.func3, Try.ntmps3
  go_wp2_with fail
  refine (awake_any _).mono ?_
  rintro e w1 ⟨rfl, hb⟩
  have X1 := Lib.hid (X0.out.below hb)
  have K1 := Lib.hid (K0.out.later hb)
  have B1 := Lib.hid (B0.out.trans (hb.mono B0.out.size))
  clear X0 K0 B0 hb
  obtain ⟨c0, c1, c2, c3, c4, c5⟩ := bk6 K1.out
  go_wp2_with fail
  refine (CFw.out _).mono ?_
  rintro e w2 ⟨rfl, hb⟩
  have X2 := Lib.hid (X1.out.below hb)
  have K2 := Lib.hid (K1.out.later hb)
  have B2 := Lib.hid (B1.out.trans (hb.mono B1.out.size))
  clear X1 K1 B1 hb
  clear c0 c1 c2 c3 c4 c5
  go_wp2
  go_ret
  exact ⟨by simp, B2.out⟩
set_option maxRecDepth 100000 in
set_option maxHeartbeats 4000000 in
theorem rcw_D (k d n q s : Int) (A : Option Addr) (m c : Nat) (ns : List (Int × Int)) (cnt : Int) (w : World) (D : Int) (hD : ¬ D = 0) (hm : m ≤ 22) (hr : RdP w A m ns) (hA : A = none → m = 0 ∧ c = 0)
    (CPo : ∀ A' c' W, RdN W A' m ns → Calls Try.prog 14 #[.agg #[.int .i64 k, .int .i64 d, .int .i64 n, .int .i64 q, .int .i64 s, .slice A' m c'], .int .i64 cnt] W (RdRes W (D) 0 []))
    (CRe : ∀ W, RdP W A m ns → Calls Try.prog 16 #[.agg #[.int .i64 k, .int .i64 d, .int .i64 n, .int .i64 q, .int .i64 s, .slice A m c]] W fun e w' => e = .returned (.int .i64 (D)) ∧ Below W.heap.size W w')
    (CCr : ∀ A' c' W, RdN W A' m ns → Calls Try.prog 17 #[.agg #[.int .i64 k, .int .i64 d, .int .i64 n, .int .i64 q, .int .i64 s, .slice A' m c']] W fun e w' => e = .returned (.int .i64 (D)) ∧ Below W.heap.size W w')
    : Calls Try.prog 3 #[.agg #[.int .i64 k, .int .i64 d, .int .i64 n, .int .i64 q, .int .i64 s, .slice A m c], .int .i64 cnt] w fun e w' => e = .returned (.bool true) ∧ Below w.heap.size w w' := by
  have CFw := Lib.hid (fun W => few_any A m c W)
  rw [decide_eq_true hm] at CFw
  have CCR : Hid (∀ W, RdP W A m ns → Calls Try.prog 15 #[.agg #[.int .i64 k, .int .i64 d, .int .i64 n, .int .i64 q, .int .i64 s, .slice A m c]] W (CpRul W k d n q s m ns)) := fun W h => copyRules_any k d n q s A m c ns W hA h (by omega)
  have CPo := Lib.hid CPo
  have CRe := Lib.hid CRe
  have CCr := Lib.hid CCr
  have dD0 := neF hD
  have dD1 := neT hD
  clear hD
  have X0 := Lib.hid (hr.below (below1 w (.cells #[.int .i64 k, .int .i64 d, .int .i64 n, .int .i64 q, .int .i64 s, .slice A m c] 26)))
  have K0 := Lib.hid (Bk.new w 26 #[.int .i64 k, .int .i64 d, .int .i64 n, .int .i64 q, .int .i64 s, .slice A m c])
  have B0 := Lib.hid (below1 w (.cells #[.int .i64 k, .int .i64 d, .int .i64 n, .int .i64 q, .int .i64 s, .slice A m c] 26))
  clear hr hA
  go_enter Try.func3, Try.ntmps3
  go_wp2_with fail
  refine (awake_any _).mono ?_
  rintro e w1 ⟨rfl, hb⟩
  have X1 := Lib.hid (X0.out.below hb)
  have K1 := Lib.hid (K0.out.later hb)
  have B1 := Lib.hid (B0.out.trans (hb.mono B0.out.size))
  clear X0 K0 B0 hb
  obtain ⟨c0, c1, c2, c3, c4, c5⟩ := bk6 K1.out
  go_wp2_with fail
  refine (CFw.out _).mono ?_
  rintro e w2 ⟨rfl, hb⟩
  have X2 := Lib.hid (X1.out.below hb)
  have K2 := Lib.hid (K1.out.later hb)
  have B2 := Lib.hid (B1.out.trans (hb.mono B1.out.size))
  clear X1 K1 B1 hb
  clear c0 c1 c2 c3 c4 c5
  obtain ⟨c0, c1, c2, c3, c4, c5⟩ := bk6 K2.out
  go_wp2_with fail
  refine (CCR.out _ X2.out).mono ?_
  rintro e w3 ⟨⟨gRa, cRa, rfl, hrRa, _⟩, hb⟩
  have X3 := Lib.hid (X2.out.below hb)
  have K3 := Lib.hid (K2.out.later hb)
  have B3 := Lib.hid (B2.out.trans (hb.mono B2.out.size))
  clear X2 K2 B2 hb
  have Ra3 := Lib.hid hrRa
  clear hrRa
  clear c0 c1 c2 c3 c4 c5
  go_wp2_with fail
  refine (CPo.out _ _ _ Ra3.out).mono ?_
  rintro e w4 ⟨⟨AYa, cYa, rfl, hrYa⟩, hb⟩
  have X4 := Lib.hid (X3.out.below hb)
  have K4 := Lib.hid (K3.out.later hb)
  have B4 := Lib.hid (B3.out.trans (hb.mono B3.out.size))
  have Ra4 := Lib.hid (Ra3.out.below hb)
  clear X3 K3 B3 Ra3 hb
  have Ya4 := Lib.hid hrYa
  clear hrYa
  obtain ⟨c0, c1, c2, c3, c4, c5⟩ := bk6 K4.out
  go_wp2_with fail
  refine (CRe.out _ X4.out).mono ?_
  rintro e w5 ⟨rfl, hb⟩
  have X5 := Lib.hid (X4.out.below hb)
  have K5 := Lib.hid (K4.out.later hb)
  have B5 := Lib.hid (B4.out.trans (hb.mono B4.out.size))
  have Ya5 := Lib.hid (Ya4.out.below hb)
  clear X4 K4 B4 Ya4 hb
  clear c0 c1 c2 c3 c4 c5
  obtain ⟨c0, c1, c2, c3, c4, c5⟩ := bk6 K5.out
  go_wp2_with fail
  refine (CCR.out _ X5.out).mono ?_
  rintro e w6 ⟨⟨gRb, cRb, rfl, hrRb, _⟩, hb⟩
  have X6 := Lib.hid (X5.out.below hb)
  have K6 := Lib.hid (K5.out.later hb)
  have B6 := Lib.hid (B5.out.trans (hb.mono B5.out.size))
  have Ya6 := Lib.hid (Ya5.out.below hb)
  clear X5 K5 B5 Ya5 hb
  have Rb6 := Lib.hid hrRb
  clear hrRb
  clear c0 c1 c2 c3 c4 c5
  go_wp2_with fail
  refine (CCr.out _ _ _ Rb6.out).mono ?_
  rintro e w7 ⟨rfl, hb⟩
  have X7 := Lib.hid (X6.out.below hb)
  have K7 := Lib.hid (K6.out.later hb)
  have B7 := Lib.hid (B6.out.trans (hb.mono B6.out.size))
  have Ya7 := Lib.hid (Ya6.out.below hb)
  have Rb7 := Lib.hid (Rb6.out.below hb)
  clear X6 K6 B6 Ya6 Rb6 hb
  go_wp2
  go_ret
  exact ⟨by simp, B7.out⟩
set_option maxRecDepth 100000 in
set_option maxHeartbeats 4000000 in
theorem rcw_R (k d n q s : Int) (A : Option Addr) (m c : Nat) (ns : List (Int × Int)) (cnt : Int) (w : World)  (hm : m ≤ 22) (hr : RdP w A m ns) (hA : A = none → m = 0 ∧ c = 0)
    (CPo : ∀ A' c' W, RdN W A' m ns → Calls Try.prog 14 #[.agg #[.int .i64 k, .int .i64 d, .int .i64 n, .int .i64 q, .int .i64 s, .slice A' m c'], .int .i64 cnt] W (RdRes W (2) 0 []))
    (CRe : ∀ W, RdP W A m ns → Calls Try.prog 16 #[.agg #[.int .i64 k, .int .i64 d, .int .i64 n, .int .i64 q, .int .i64 s, .slice A m c]] W fun e w' => e = .returned (.int .i64 (0)) ∧ Below W.heap.size W w')
    (CCr : ∀ A' c' W, RdN W A' m ns → Calls Try.prog 17 #[.agg #[.int .i64 k, .int .i64 d, .int .i64 n, .int .i64 q, .int .i64 s, .slice A' m c']] W fun e w' => e = .returned (.int .i64 (0)) ∧ Below W.heap.size W w')
    (CWi : ∀ W, Calls Try.prog 18 #[.int .i64 cnt, .int .i64 0, .int .i64 400] W fun e w' => e = .returned (.bool false) ∧ W = w')
    : Calls Try.prog 3 #[.agg #[.int .i64 k, .int .i64 d, .int .i64 n, .int .i64 q, .int .i64 s, .slice A m c], .int .i64 cnt] w fun e w' => e = .returned (.bool true) ∧ Below w.heap.size w w' := by
  have CFw := Lib.hid (fun W => few_any A m c W)
  rw [decide_eq_true hm] at CFw
  have CCR : Hid (∀ W, RdP W A m ns → Calls Try.prog 15 #[.agg #[.int .i64 k, .int .i64 d, .int .i64 n, .int .i64 q, .int .i64 s, .slice A m c]] W (CpRul W k d n q s m ns)) := fun W h => copyRules_any k d n q s A m c ns W hA h (by omega)
  have CPo := Lib.hid CPo
  have CRe := Lib.hid CRe
  have CCr := Lib.hid CCr
  have CWi := Lib.hid CWi
  have X0 := Lib.hid (hr.below (below1 w (.cells #[.int .i64 k, .int .i64 d, .int .i64 n, .int .i64 q, .int .i64 s, .slice A m c] 26)))
  have K0 := Lib.hid (Bk.new w 26 #[.int .i64 k, .int .i64 d, .int .i64 n, .int .i64 q, .int .i64 s, .slice A m c])
  have B0 := Lib.hid (below1 w (.cells #[.int .i64 k, .int .i64 d, .int .i64 n, .int .i64 q, .int .i64 s, .slice A m c] 26))
  clear hr hA
  go_enter Try.func3, Try.ntmps3
  go_wp2_with fail
  refine (awake_any _).mono ?_
  rintro e w1 ⟨rfl, hb⟩
  have X1 := Lib.hid (X0.out.below hb)
  have K1 := Lib.hid (K0.out.later hb)
  have B1 := Lib.hid (B0.out.trans (hb.mono B0.out.size))
  clear X0 K0 B0 hb
  obtain ⟨c0, c1, c2, c3, c4, c5⟩ := bk6 K1.out
  go_wp2_with fail
  refine (CFw.out _).mono ?_
  rintro e w2 ⟨rfl, hb⟩
  have X2 := Lib.hid (X1.out.below hb)
  have K2 := Lib.hid (K1.out.later hb)
  have B2 := Lib.hid (B1.out.trans (hb.mono B1.out.size))
  clear X1 K1 B1 hb
  clear c0 c1 c2 c3 c4 c5
  obtain ⟨c0, c1, c2, c3, c4, c5⟩ := bk6 K2.out
  go_wp2_with fail
  refine (CCR.out _ X2.out).mono ?_
  rintro e w3 ⟨⟨gRa, cRa, rfl, hrRa, _⟩, hb⟩
  have X3 := Lib.hid (X2.out.below hb)
  have K3 := Lib.hid (K2.out.later hb)
  have B3 := Lib.hid (B2.out.trans (hb.mono B2.out.size))
  clear X2 K2 B2 hb
  have Ra3 := Lib.hid hrRa
  clear hrRa
  clear c0 c1 c2 c3 c4 c5
  go_wp2_with fail
  refine (CPo.out _ _ _ Ra3.out).mono ?_
  rintro e w4 ⟨⟨AYa, cYa, rfl, hrYa⟩, hb⟩
  have X4 := Lib.hid (X3.out.below hb)
  have K4 := Lib.hid (K3.out.later hb)
  have B4 := Lib.hid (B3.out.trans (hb.mono B3.out.size))
  have Ra4 := Lib.hid (Ra3.out.below hb)
  clear X3 K3 B3 Ra3 hb
  have Ya4 := Lib.hid hrYa
  clear hrYa
  obtain ⟨c0, c1, c2, c3, c4, c5⟩ := bk6 K4.out
  go_wp2_with fail
  refine (CRe.out _ X4.out).mono ?_
  rintro e w5 ⟨rfl, hb⟩
  have X5 := Lib.hid (X4.out.below hb)
  have K5 := Lib.hid (K4.out.later hb)
  have B5 := Lib.hid (B4.out.trans (hb.mono B4.out.size))
  have Ya5 := Lib.hid (Ya4.out.below hb)
  clear X4 K4 B4 Ya4 hb
  clear c0 c1 c2 c3 c4 c5
  obtain ⟨c0, c1, c2, c3, c4, c5⟩ := bk6 K5.out
  go_wp2_with fail
  refine (CCR.out _ X5.out).mono ?_
  rintro e w6 ⟨⟨gRb, cRb, rfl, hrRb, _⟩, hb⟩
  have X6 := Lib.hid (X5.out.below hb)
  have K6 := Lib.hid (K5.out.later hb)
  have B6 := Lib.hid (B5.out.trans (hb.mono B5.out.size))
  have Ya6 := Lib.hid (Ya5.out.below hb)
  clear X5 K5 B5 Ya5 hb
  have Rb6 := Lib.hid hrRb
  clear hrRb
  clear c0 c1 c2 c3 c4 c5
  go_wp2_with fail
  refine (CCr.out _ _ _ Rb6.out).mono ?_
  rintro e w7 ⟨rfl, hb⟩
  have X7 := Lib.hid (X6.out.below hb)
  have K7 := Lib.hid (K6.out.later hb)
  have B7 := Lib.hid (B6.out.trans (hb.mono B6.out.size))
  have Ya7 := Lib.hid (Ya6.out.below hb)
  have Rb7 := Lib.hid (Rb6.out.below hb)
  clear X6 K6 B6 Ya6 Rb6 hb
  go_wp2_with fail
  refine (CWi.out _).mono ?_
  rintro e w' ⟨rfl, rfl⟩
  go_wp2
  go_ret
  exact ⟨by simp, B7.out⟩
set_option maxRecDepth 100000 in
set_option maxHeartbeats 4000000 in
theorem rcw_M (k d n q s : Int) (A : Option Addr) (m c : Nat) (ns : List (Int × Int)) (cnt : Int) (w : World)  (hm : m ≤ 22) (hr : RdP w A m ns) (hA : A = none → m = 0 ∧ c = 0)
    (CPo : ∀ A' c' W, RdN W A' m ns → Calls Try.prog 14 #[.agg #[.int .i64 k, .int .i64 d, .int .i64 n, .int .i64 q, .int .i64 s, .slice A' m c'], .int .i64 cnt] W (RdRes W (8) 0 []))
    (CRe : ∀ W, RdP W A m ns → Calls Try.prog 16 #[.agg #[.int .i64 k, .int .i64 d, .int .i64 n, .int .i64 q, .int .i64 s, .slice A m c]] W fun e w' => e = .returned (.int .i64 (0)) ∧ Below W.heap.size W w')
    (CCr : ∀ A' c' W, RdN W A' m ns → Calls Try.prog 17 #[.agg #[.int .i64 k, .int .i64 d, .int .i64 n, .int .i64 q, .int .i64 s, .slice A' m c']] W fun e w' => e = .returned (.int .i64 (0)) ∧ Below W.heap.size W w')
    (CWi : ∀ W, Calls Try.prog 18 #[.int .i64 cnt, .int .i64 0, .int .i64 400] W fun e w' => e = .returned (.bool true) ∧ W = w')
    (CRp : ∀ W, RdP W A m ns → Calls Try.prog 19 #[.agg #[.int .i64 k, .int .i64 d, .int .i64 n, .int .i64 q, .int .i64 s, .slice A m c], .int .i64 cnt] W (RdResB W false 0 []))
    : Calls Try.prog 3 #[.agg #[.int .i64 k, .int .i64 d, .int .i64 n, .int .i64 q, .int .i64 s, .slice A m c], .int .i64 cnt] w fun e w' => e = .returned (.bool true) ∧ Below w.heap.size w w' := by
  have CFw := Lib.hid (fun W => few_any A m c W)
  rw [decide_eq_true hm] at CFw
  have CCR : Hid (∀ W, RdP W A m ns → Calls Try.prog 15 #[.agg #[.int .i64 k, .int .i64 d, .int .i64 n, .int .i64 q, .int .i64 s, .slice A m c]] W (CpRul W k d n q s m ns)) := fun W h => copyRules_any k d n q s A m c ns W hA h (by omega)
  have CPo := Lib.hid CPo
  have CRe := Lib.hid CRe
  have CCr := Lib.hid CCr
  have CWi := Lib.hid CWi
  have CRp := Lib.hid CRp
  have X0 := Lib.hid (hr.below (below1 w (.cells #[.int .i64 k, .int .i64 d, .int .i64 n, .int .i64 q, .int .i64 s, .slice A m c] 26)))
  have K0 := Lib.hid (Bk.new w 26 #[.int .i64 k, .int .i64 d, .int .i64 n, .int .i64 q, .int .i64 s, .slice A m c])
  have B0 := Lib.hid (below1 w (.cells #[.int .i64 k, .int .i64 d, .int .i64 n, .int .i64 q, .int .i64 s, .slice A m c] 26))
  clear hr hA
  go_enter Try.func3, Try.ntmps3
  go_wp2_with fail
  refine (awake_any _).mono ?_
  rintro e w1 ⟨rfl, hb⟩
  have X1 := Lib.hid (X0.out.below hb)
  have K1 := Lib.hid (K0.out.later hb)
  have B1 := Lib.hid (B0.out.trans (hb.mono B0.out.size))
  clear X0 K0 B0 hb
  obtain ⟨c0, c1, c2, c3, c4, c5⟩ := bk6 K1.out
  go_wp2_with fail
  refine (CFw.out _).mono ?_
  rintro e w2 ⟨rfl, hb⟩
  have X2 := Lib.hid (X1.out.below hb)
  have K2 := Lib.hid (K1.out.later hb)
  have B2 := Lib.hid (B1.out.trans (hb.mono B1.out.size))
  clear X1 K1 B1 hb
  clear c0 c1 c2 c3 c4 c5
  obtain ⟨c0, c1, c2, c3, c4, c5⟩ := bk6 K2.out
  go_wp2_with fail
  refine (CCR.out _ X2.out).mono ?_
  rintro e w3 ⟨⟨gRa, cRa, rfl, hrRa, _⟩, hb⟩
  have X3 := Lib.hid (X2.out.below hb)
  have K3 := Lib.hid (K2.out.later hb)
  have B3 := Lib.hid (B2.out.trans (hb.mono B2.out.size))
  clear X2 K2 B2 hb
  have Ra3 := Lib.hid hrRa
  clear hrRa
  clear c0 c1 c2 c3 c4 c5
  go_wp2_with fail
  refine (CPo.out _ _ _ Ra3.out).mono ?_
  rintro e w4 ⟨⟨AYa, cYa, rfl, hrYa⟩, hb⟩
  have X4 := Lib.hid (X3.out.below hb)
  have K4 := Lib.hid (K3.out.later hb)
  have B4 := Lib.hid (B3.out.trans (hb.mono B3.out.size))
  have Ra4 := Lib.hid (Ra3.out.below hb)
  clear X3 K3 B3 Ra3 hb
  have Ya4 := Lib.hid hrYa
  clear hrYa
  obtain ⟨c0, c1, c2, c3, c4, c5⟩ := bk6 K4.out
  go_wp2_with fail
  refine (CRe.out _ X4.out).mono ?_
  rintro e w5 ⟨rfl, hb⟩
  have X5 := Lib.hid (X4.out.below hb)
  have K5 := Lib.hid (K4.out.later hb)
  have B5 := Lib.hid (B4.out.trans (hb.mono B4.out.size))
  have Ya5 := Lib.hid (Ya4.out.below hb)
  clear X4 K4 B4 Ya4 hb
  clear c0 c1 c2 c3 c4 c5
  obtain ⟨c0, c1, c2, c3, c4, c5⟩ := bk6 K5.out
  go_wp2_with fail
  refine (CCR.out _ X5.out).mono ?_
  rintro e w6 ⟨⟨gRb, cRb, rfl, hrRb, _⟩, hb⟩
  have X6 := Lib.hid (X5.out.below hb)
  have K6 := Lib.hid (K5.out.later hb)
  have B6 := Lib.hid (B5.out.trans (hb.mono B5.out.size))
  have Ya6 := Lib.hid (Ya5.out.below hb)
  clear X5 K5 B5 Ya5 hb
  have Rb6 := Lib.hid hrRb
  clear hrRb
  clear c0 c1 c2 c3 c4 c5
  go_wp2_with fail
  refine (CCr.out _ _ _ Rb6.out).mono ?_
  rintro e w7 ⟨rfl, hb⟩
  have X7 := Lib.hid (X6.out.below hb)
  have K7 := Lib.hid (K6.out.later hb)
  have B7 := Lib.hid (B6.out.trans (hb.mono B6.out.size))
  have Ya7 := Lib.hid (Ya6.out.below hb)
  have Rb7 := Lib.hid (Rb6.out.below hb)
  clear X6 K6 B6 Ya6 Rb6 hb
  go_wp2_with fail
  refine (CWi.out _).mono ?_
  rintro e w' ⟨rfl, rfl⟩
  obtain ⟨c0, c1, c2, c3, c4, c5⟩ := bk6 K7.out
  go_wp2_with fail
  refine (CRp.out _ X7.out).mono ?_
  rintro e w8 ⟨⟨AYb, cYb, rfl, hrYb⟩, hb⟩
  have X8 := Lib.hid (X7.out.below hb)
  have K8 := Lib.hid (K7.out.later hb)
  have B8 := Lib.hid (B7.out.trans (hb.mono B7.out.size))
  have Ya8 := Lib.hid (Ya7.out.below hb)
  clear X7 K7 B7 Ya7 hb
  have Yb8 := Lib.hid hrYb
  clear hrYb
  clear c0 c1 c2 c3 c4 c5
  go_wp2
  go_ret
  exact ⟨by simp, B8.out⟩
set_option maxRecDepth 100000 in
set_option maxHeartbeats 4000000 in
theorem rcw_ok (k d n q s : Int) (A : Option Addr) (m c : Nat) (ns : List (Int × Int)) (cnt : Int) (w : World) (l : Nat) (L : List Int) (hl : l ≤ 2000) (hm : m ≤ 22) (hr : RdP w A m ns) (hA : A = none → m = 0 ∧ c = 0)
    (CPo : ∀ A' c' W, RdN W A' m ns → Calls Try.prog 14 #[.agg #[.int .i64 k, .int .i64 d, .int .i64 n, .int .i64 q, .int .i64 s, .slice A' m c'], .int .i64 cnt] W (RdRes W (0) l L))
    (CRe : ∀ W, RdP W A m ns → Calls Try.prog 16 #[.agg #[.int .i64 k, .int .i64 d, .int .i64 n, .int .i64 q, .int .i64 s, .slice A m c]] W fun e w' => e = .returned (.int .i64 (0)) ∧ Below W.heap.size W w')
    (CCr : ∀ A' c' W, RdN W A' m ns → Calls Try.prog 17 #[.agg #[.int .i64 k, .int .i64 d, .int .i64 n, .int .i64 q, .int .i64 s, .slice A' m c']] W fun e w' => e = .returned (.int .i64 (0)) ∧ Below W.heap.size W w')
    (CWi : ∀ W, Calls Try.prog 18 #[.int .i64 cnt, .int .i64 0, .int .i64 400] W fun e w' => e = .returned (.bool true) ∧ W = w')
    (CRp : ∀ W, RdP W A m ns → Calls Try.prog 19 #[.agg #[.int .i64 k, .int .i64 d, .int .i64 n, .int .i64 q, .int .i64 s, .slice A m c], .int .i64 cnt] W (RdResB W true l L))
    : Calls Try.prog 3 #[.agg #[.int .i64 k, .int .i64 d, .int .i64 n, .int .i64 q, .int .i64 s, .slice A m c], .int .i64 cnt] w fun e w' => e = .returned (.bool true) ∧ Below w.heap.size w w' := by
  have CFw := Lib.hid (fun W => few_any A m c W)
  rw [decide_eq_true hm] at CFw
  have CCR : Hid (∀ W, RdP W A m ns → Calls Try.prog 15 #[.agg #[.int .i64 k, .int .i64 d, .int .i64 n, .int .i64 q, .int .i64 s, .slice A m c]] W (CpRul W k d n q s m ns)) := fun W h => copyRules_any k d n q s A m c ns W hA h (by omega)
  have CPo := Lib.hid CPo
  have CRe := Lib.hid CRe
  have CCr := Lib.hid CCr
  have CWi := Lib.hid CWi
  have CRp := Lib.hid CRp
  have X0 := Lib.hid (hr.below (below1 w (.cells #[.int .i64 k, .int .i64 d, .int .i64 n, .int .i64 q, .int .i64 s, .slice A m c] 26)))
  have K0 := Lib.hid (Bk.new w 26 #[.int .i64 k, .int .i64 d, .int .i64 n, .int .i64 q, .int .i64 s, .slice A m c])
  have B0 := Lib.hid (below1 w (.cells #[.int .i64 k, .int .i64 d, .int .i64 n, .int .i64 q, .int .i64 s, .slice A m c] 26))
  clear hr hA
  go_enter Try.func3, Try.ntmps3
  go_wp2_with fail
  refine (awake_any _).mono ?_
  rintro e w1 ⟨rfl, hb⟩
  have X1 := Lib.hid (X0.out.below hb)
  have K1 := Lib.hid (K0.out.later hb)
  have B1 := Lib.hid (B0.out.trans (hb.mono B0.out.size))
  clear X0 K0 B0 hb
  obtain ⟨c0, c1, c2, c3, c4, c5⟩ := bk6 K1.out
  go_wp2_with fail
  refine (CFw.out _).mono ?_
  rintro e w2 ⟨rfl, hb⟩
  have X2 := Lib.hid (X1.out.below hb)
  have K2 := Lib.hid (K1.out.later hb)
  have B2 := Lib.hid (B1.out.trans (hb.mono B1.out.size))
  clear X1 K1 B1 hb
  clear c0 c1 c2 c3 c4 c5
  obtain ⟨c0, c1, c2, c3, c4, c5⟩ := bk6 K2.out
  go_wp2_with fail
  refine (CCR.out _ X2.out).mono ?_
  rintro e w3 ⟨⟨gRa, cRa, rfl, hrRa, _⟩, hb⟩
  have X3 := Lib.hid (X2.out.below hb)
  have K3 := Lib.hid (K2.out.later hb)
  have B3 := Lib.hid (B2.out.trans (hb.mono B2.out.size))
  clear X2 K2 B2 hb
  have Ra3 := Lib.hid hrRa
  clear hrRa
  clear c0 c1 c2 c3 c4 c5
  go_wp2_with fail
  refine (CPo.out _ _ _ Ra3.out).mono ?_
  rintro e w4 ⟨⟨AYa, cYa, rfl, hrYa⟩, hb⟩
  have X4 := Lib.hid (X3.out.below hb)
  have K4 := Lib.hid (K3.out.later hb)
  have B4 := Lib.hid (B3.out.trans (hb.mono B3.out.size))
  have Ra4 := Lib.hid (Ra3.out.below hb)
  clear X3 K3 B3 Ra3 hb
  have Ya4 := Lib.hid hrYa
  clear hrYa
  obtain ⟨c0, c1, c2, c3, c4, c5⟩ := bk6 K4.out
  go_wp2_with fail
  refine (CRe.out _ X4.out).mono ?_
  rintro e w5 ⟨rfl, hb⟩
  have X5 := Lib.hid (X4.out.below hb)
  have K5 := Lib.hid (K4.out.later hb)
  have B5 := Lib.hid (B4.out.trans (hb.mono B4.out.size))
  have Ya5 := Lib.hid (Ya4.out.below hb)
  clear X4 K4 B4 Ya4 hb
  clear c0 c1 c2 c3 c4 c5
  obtain ⟨c0, c1, c2, c3, c4, c5⟩ := bk6 K5.out
  go_wp2_with fail
  refine (CCR.out _ X5.out).mono ?_
  rintro e w6 ⟨⟨gRb, cRb, rfl, hrRb, _⟩, hb⟩
  have X6 := Lib.hid (X5.out.below hb)
  have K6 := Lib.hid (K5.out.later hb)
  have B6 := Lib.hid (B5.out.trans (hb.mono B5.out.size))
  have Ya6 := Lib.hid (Ya5.out.below hb)
  clear X5 K5 B5 Ya5 hb
  have Rb6 := Lib.hid hrRb
  clear hrRb
  clear c0 c1 c2 c3 c4 c5
  go_wp2_with fail
  refine (CCr.out _ _ _ Rb6.out).mono ?_
  rintro e w7 ⟨rfl, hb⟩
  have X7 := Lib.hid (X6.out.below hb)
  have K7 := Lib.hid (K6.out.later hb)
  have B7 := Lib.hid (B6.out.trans (hb.mono B6.out.size))
  have Ya7 := Lib.hid (Ya6.out.below hb)
  have Rb7 := Lib.hid (Rb6.out.below hb)
  clear X6 K6 B6 Ya6 Rb6 hb
  go_wp2_with fail
  refine (CWi.out _).mono ?_
  rintro e w' ⟨rfl, rfl⟩
  obtain ⟨c0, c1, c2, c3, c4, c5⟩ := bk6 K7.out
  go_wp2_with fail
  refine (CRp.out _ X7.out).mono ?_
  rintro e w8 ⟨⟨AYb, cYb, rfl, hrYb⟩, hb⟩
  have X8 := Lib.hid (X7.out.below hb)
  have K8 := Lib.hid (K7.out.later hb)
  have B8 := Lib.hid (B7.out.trans (hb.mono B7.out.size))
  have Ya8 := Lib.hid (Ya7.out.below hb)
  clear X7 K7 B7 Ya7 hb
  have Yb8 := Lib.hid hrYb
  clear hrYb
  clear c0 c1 c2 c3 c4 c5
  go_wp2_with fail
  refine (ints_same _ _ _ _ _ _ _ Ya8.out Yb8.out (by omega)).mono ?_
  rintro e w' ⟨rfl, kk, rfl⟩
  have X9 := Lib.hid (X8.out.drewN kk)
  have K9 := Lib.hid (K8.out.drewN kk)
  have B9 := Lib.hid (belowDrewN B8.out kk)
  have Ya9 := Lib.hid (Ya8.out.drewN kk)
  have Yb9 := Lib.hid (Yb8.out.drewN kk)
  clear X8 K8 B8 Ya8 Yb8
  obtain ⟨w9, hw9⟩ : ∃ W, w8.drewN kk = W := ⟨_, rfl⟩
  rw [hw9] at X9 K9 B9 Ya9 Yb9 ⊢
  clear hw9
  go_wp2
  go_ret
  exact ⟨by simp, B9.out⟩
theorem PositionsOf_01 (k d n q s : Int) (A : Option Addr) (m c : Nat) (ns : List (Int × Int)) (cnt : Nat) (w : World) (hr : RdN w A m ns) (hm : m ≤ 1000000) (hcnt : cnt ≤ 400) (hE : rulC k d n q s m ns = 0) :
    Calls Try.prog 14 #[.agg #[.int .i64 k, .int .i64 d, .int .i64 n, .int .i64 q, .int .i64 s, .slice A m c], .int .i64 cnt] w (OwnRes w (posOut (if k = 0 then opR0 n q else opR1 s ns) (64 * ((cnt : Int) - 1))).2 (posOut (if k = 0 then opR0 n q else opR1 s ns) (64 * ((cnt : Int) - 1))).1) := by
  obtain ⟨hk, hp⟩ := rulC_zero hE
  have hcr := fun W (hb : Below w.heap.size w W) => CheckRules_all k d n q s A m c ns W (hr.below hb) hm
  rw [hE] at hcr
  rcases hp with ⟨rfl, hn, hq, rfl, rfl⟩ | ⟨rfl, hM, hs, rfl, rfl⟩
  · rw [if_pos rfl]
    exact PositionsOf_ok 0 d n q 0 A 0 c cnt (opR0 n q) w hcnt hcr (fun k W hk _ _ => outPos0_any d n q A c k W (by omega) hn hq)
  · rw [if_neg (by decide)]
    obtain ⟨hok, hl2, hl20⟩ := mapR_ok hM
    have hl := hr.1
    have h0 := hok 0 (by omega)
    exact PositionsOf_ok 1 d 0 0 s A m c cnt (opR1 s ns) w hcnt hcr (fun k W hk h1 h2 => outPos1_any d s A m c ns k W (hr.heap h1 h2) (by omega) (by omega) (by omega) (by omega))
theorem refPositions_01 (k d n q s : Int) (A : Option Addr) (m c : Nat) (ns : List (Int × Int)) (cnt : Nat) (w : World) (hr : RdP w A m ns) (hm : m ≤ 1000000) (hcnt : cnt ≤ 400) (hE : rulC k d n q s m ns = 0) :
    Calls Try.prog 19 #[.agg #[.int .i64 k, .int .i64 d, .int .i64 n, .int .i64 q, .int .i64 s, .slice A m c], .int .i64 cnt] w (OwnResB w (decide ((posOut (if k = 0 then opR0 n q else opR1 s ns) (64 * ((cnt : Int) - 1))).2 = 0)) (posOut (if k = 0 then opR0 n q else opR1 s ns) (64 * ((cnt : Int) - 1))).1) := by
  obtain ⟨hk, hp⟩ := rulC_zero hE
  rcases hp with ⟨rfl, hn, hq, rfl, rfl⟩ | ⟨rfl, hM, hs, rfl, rfl⟩
  · rw [if_pos rfl]
    exact refPositions0_any d n q 0 A 0 c cnt w hcnt hn hq
  · rw [if_neg (by decide)]
    exact refPositions1_any d 0 0 s A m c ns cnt w hcnt hr hm hs hM
theorem posOut_two (opv : Nat → Int × Int) (last : Int) : (posOut opv last).2 = 0 ∧ (posOut opv last).1.length ≤ 2000 ∨ posOut opv last = ([], 8) := by
  unfold posOut
  by_cases h : stopAt opv last 0 2001 = 2001
  · rw [if_pos h]; exact .inr rfl
  · rw [if_neg h]
    have := stopAt_le opv last 0 2001
    exact .inl ⟨rfl, by simp; omega⟩
theorem checks_walk (k d n q s : Int) (A : Option Addr) (m c : Nat) (ns : List (Int × Int)) (cnt : Int) (w : World) (hr : RdP w A m ns) (hm0 : m ≤ 9223372036854775807) (hA : A = none → m = 0 ∧ c = 0) :
    Calls Try.prog 3 #[.agg #[.int .i64 k, .int .i64 d, .int .i64 n, .int .i64 q, .int .i64 s, .slice A m c], .int .i64 cnt] w fun e w' => e = .returned (.bool true) ∧ Below w.heap.size w w' := by
  by_cases hm : m ≤ 22
  rotate_left
  · exact rcw_far k d n q s A m c ns cnt w hm hr hA
  have CRe := fun W (h : RdP W A m ns) => refRulesErr_any k d n q s A m c ns W h (by omega)
  have CCr := fun A' c' W (h : RdN W A' m ns) => CheckRules_all k d n q s A' m c' ns W h (by omega)
  have CWi := fun W => within_any cnt 0 400 W
  have CPe := fun (F : Int) (hF : firstNZ [rulC k d n q s m ns, rngE 0 400 [cnt]] = F) (hne : ¬ F = 0) A' c' W (h : RdN W A' m ns) =>
    (PositionsOf_err k d n q s A' m c' cnt _ F W hF hne (fun W' hb => CheckRules_all k d n q s A' m c' ns W' (h.below hb) (by omega))).mono fun e w' ho => ho.rd rfl
  by_cases hE : rulC k d n q s m ns = 0
  rotate_left
  · exact rcw_D k d n q s A m c ns cnt w _ hE hm hr hA (CPe _ (by simp [firstNZ, hE]) hE) CRe CCr
  have C1 := fun cn A' c' W (h : RdN W A' m ns) h4 => PositionsOf_01 k d n q s A' m c' ns cn W h (by omega) h4 hE
  have C2 := fun cn W (h : RdP W A m ns) h4 => refPositions_01 k d n q s A m c ns cn W h (by omega) h4 hE
  rw [hE] at CRe CCr CPe
  by_cases hc : 0 ≤ cnt ∧ cnt ≤ 400
  rotate_left
  · rw [show fromB 0 400 [cnt] = false by rw [fromB_one]; exact decide_eq_false hc] at CWi
    exact rcw_R k d n q s A m c ns cnt w hm hr hA (CPe 2 (by rw [rngE_one, if_neg hc]; rfl) (by decide)) CRe CCr CWi
  rw [show fromB 0 400 [cnt] = true by rw [fromB_one]; exact decide_eq_true hc] at CWi
  obtain ⟨cn, rfl⟩ := Int.eq_ofNat_of_zero_le hc.1
  have C1 := fun A' c' W h => C1 cn A' c' W h (by omega)
  have C2 := fun W h => C2 cn W h (by omega)
  have h2 := posOut_two (if k = 0 then opR0 n q else opR1 s ns) (64 * ((cn : Int) - 1))
  obtain ⟨⟨L, E⟩, hL⟩ : ∃ x, posOut (if k = 0 then opR0 n q else opR1 s ns) (64 * ((cn : Int) - 1)) = x := ⟨_, rfl⟩
  rw [hL] at C1 C2 h2
  rcases h2 with ⟨h3, h4⟩ | h3
  · simp only at h3 h4
    subst h3
    exact rcw_ok k d n q s A m c ns cn w L.length L h4 hm hr hA (fun A' c' W h => (C1 A' c' W h).mono fun e w' ho => ho.rd rfl) CRe CCr CWi (fun W h => (C2 W h).mono fun e w' ho => by have := ho.rd rfl; rwa [show decide ((0 : Int) = 0) = true by decide] at this)
  · injection h3 with h3 h4
    subst h3 h4
    exact rcw_M k d n q s A m c ns cn w hm hr hA (fun A' c' W h => (C1 A' c' W h).mono fun e w' ho => ho.rd rfl) CRe CCr CWi (fun W h => (C2 W h).mono fun e w' ho => by have := ho.rd rfl; rwa [show decide ((8 : Int) = 0) = false by decide] at this)

end Go.Proofs.Ytepcciodhppbnaa


namespace Go.Proofs.Ytepcciodhppbnaa
open Go.RowKit

def takeV (M : List Int) (u : Nat) : List Value := (M.take u).map (Value.int .i64)
set_option maxRecDepth 100000 in
set_option maxHeartbeats 4000000 in
theorem Resampled_err (k d n q s : Int) (A : Option Addr) (m c : Nat) (B : Option Addr) (nn cb : Nat) (E1 E2 F : Int) (w : World) (hF : firstNZ [E1, E2] = F) (hne : ¬ F = 0)
    (hcr : ∀ W, Below w.heap.size w W → Calls Try.prog 17 #[.agg #[.int .i64 k, .int .i64 d, .int .i64 n, .int .i64 q, .int .i64 s, .slice A m c]] W fun e w' => e = .returned (.int .i64 E1) ∧ Below W.heap.size W w')
    (hcs : ∀ W, Below w.heap.size w W → Calls Try.prog 71 #[.slice B nn cb] W fun e w' => e = .returned (.int .i64 E2) ∧ Below W.heap.size W w') :
    Calls Try.prog 22 #[.agg #[.int .i64 k, .int .i64 d, .int .i64 n, .int .i64 q, .int .i64 s, .slice A m c], .slice B nn cb] w (OwnRes w F []) := by
  have HCR := Lib.hid hcr
  have HCS := Lib.hid hcs
  have HF := Lib.hid hF
  have hFT := neT hne
  have R0 := Lib.hid (OneB.start w 26 #[.int .i64 k, .int .i64 d, .int .i64 n, .int .i64 q, .int .i64 s, .slice A m c])
  clear hcr hcs hF hne
  go_enter Try.func22, Try.ntmps22
  go_wp2_with fail
  refine (HCR.out _ R0.out.b).mono ?_
  rintro e w1 ⟨rfl, hb1⟩
  have R1 := Lib.hid (OneB.later hb1 R0.out)
  clear hb1 R0
  go_wp2_with fail
  refine (HCS.out _ R1.out.b).mono ?_
  rintro e w2 ⟨rfl, hb2⟩
  have R2 := Lib.hid (OneB.later hb2 R1.out)
  clear hb2 R1
  go_wp2_with (go_at_call 62; refine (firstError2 HF.out _ _ ?_ ?_).mono ?_; (focus (simp [go_sem])); (focus (simp [go_sem])); rintro e w' ⟨rfl, rfl⟩)
  go_ret2
  exact OwnRes.none_ (R2.out.b.alloc R2.out.b.size _)
set_option maxRecDepth 100000 in
set_option maxHeartbeats 4000000 in
theorem rrs_D (k d n q s : Int) (A : Option Addr) (m c : Nat) (ns : List (Int × Int)) (B : Option Addr) (nn cb : Nat) (xs : List Int) (w : World) (hr : RdP w A m ns) (hx : RdI w B nn xs) (hnn : nn ≤ 1000000) (D : Int) (hD : ¬ D = 0)
    (CRe : ∀ W, RdP W A m ns → Calls Try.prog 16 #[.agg #[.int .i64 k, .int .i64 d, .int .i64 n, .int .i64 q, .int .i64 s, .slice A m c]] W fun e w' => e = .returned (.int .i64 (D)) ∧ Below W.heap.size W w')
    : Calls Try.prog 24 #[.agg #[.int .i64 k, .int .i64 d, .int .i64 n, .int .i64 q, .int .i64 s, .slice A m c], .slice B nn cb] w (OwnRes w (D) []) := by
  have CRe := Lib.hid CRe
  have dD := neT hD
  clear hD
  have X0 := Lib.hid (hr.below (below1 w (.cells #[.int .i64 k, .int .i64 d, .int .i64 n, .int .i64 q, .int .i64 s, .slice A m c] 26)))
  have Y0 := Lib.hid (hx.below (below1 w (.cells #[.int .i64 k, .int .i64 d, .int .i64 n, .int .i64 q, .int .i64 s, .slice A m c] 26)))
  have K0 := Lib.hid (Bk.new w 26 #[.int .i64 k, .int .i64 d, .int .i64 n, .int .i64 q, .int .i64 s, .slice A m c])
  have B0 := Lib.hid (below1 w (.cells #[.int .i64 k, .int .i64 d, .int .i64 n, .int .i64 q, .int .i64 s, .slice A m c] 26))
  clear hr hx
  go_enter Try.func24, Try.ntmps24
  obtain ⟨c0, c1, c2, c3, c4, c5⟩ := bk6 K0.out
  go_wp2_with fail
  refine (CRe.out _ X0.out).mono ?_
  rintro e w1 ⟨rfl, hb⟩
  have X1 := Lib.hid (X0.out.below hb)
  have Y1 := Lib.hid (Y0.out.below hb)
  have K1 := Lib.hid (K0.out.later hb)
  have B1 := Lib.hid (B0.out.trans (hb.mono B0.out.size))
  clear X0 Y0 K0 B0 hb
  clear c0 c1 c2 c3 c4 c5
  go_wp2
  go_ret2
  exact OwnRes.none_ B1.out
set_option maxRecDepth 100000 in
set_option maxHeartbeats 4000000 in
theorem rrs_S (k d n q s : Int) (A : Option Addr) (m c : Nat) (ns : List (Int × Int)) (B : Option Addr) (nn cb : Nat) (xs : List Int) (w : World) (hr : RdP w A m ns) (hx : RdI w B nn xs) (hnn : nn ≤ 1000000) (Sg : Int) (hS : ¬ Sg = 0)
    (CRe : ∀ W, RdP W A m ns → Calls Try.prog 16 #[.agg #[.int .i64 k, .int .i64 d, .int .i64 n, .int .i64 q, .int .i64 s, .slice A m c]] W fun e w' => e = .returned (.int .i64 (0)) ∧ Below W.heap.size W w')
    (CSg : ∀ W, RdI W B nn xs → Calls Try.prog 25 #[.slice B nn cb] W fun e w' => e = .returned (.int .i64 (Sg)) ∧ W = w')
    : Calls Try.prog 24 #[.agg #[.int .i64 k, .int .i64 d, .int .i64 n, .int .i64 q, .int .i64 s, .slice A m c], .slice B nn cb] w (OwnRes w (Sg) []) := by
  have CRe := Lib.hid CRe
  have CSg := Lib.hid CSg
  have dS := neT hS
  clear hS
  have X0 := Lib.hid (hr.below (below1 w (.cells #[.int .i64 k, .int .i64 d, .int .i64 n, .int .i64 q, .int .i64 s, .slice A m c] 26)))
  have Y0 := Lib.hid (hx.below (below1 w (.cells #[.int .i64 k, .int .i64 d, .int .i64 n, .int .i64 q, .int .i64 s, .slice A m c] 26)))
  have K0 := Lib.hid (Bk.new w 26 #[.int .i64 k, .int .i64 d, .int .i64 n, .int .i64 q, .int .i64 s, .slice A m c])
  have B0 := Lib.hid (below1 w (.cells #[.int .i64 k, .int .i64 d, .int .i64 n, .int .i64 q, .int .i64 s, .slice A m c] 26))
  clear hr hx
  go_enter Try.func24, Try.ntmps24
  obtain ⟨c0, c1, c2, c3, c4, c5⟩ := bk6 K0.out
  go_wp2_with fail
  refine (CRe.out _ X0.out).mono ?_
  rintro e w1 ⟨rfl, hb⟩
  have X1 := Lib.hid (X0.out.below hb)
  have Y1 := Lib.hid (Y0.out.below hb)
  have K1 := Lib.hid (K0.out.later hb)
  have B1 := Lib.hid (B0.out.trans (hb.mono B0.out.size))
  clear X0 Y0 K0 B0 hb
  clear c0 c1 c2 c3 c4 c5
  go_wp2_with fail
  refine (CSg.out _ Y1.out).mono ?_
  rintro e w' ⟨rfl, rfl⟩
  go_wp2
  go_ret2
  exact OwnRes.none_ B1.out
set_option maxRecDepth 100000 in
set_option maxHeartbeats 4000000 in
theorem rrs_M (k d n q s : Int) (A : Option Addr) (m c : Nat) (ns : List (Int × Int)) (B : Option Addr) (nn cb : Nat) (xs : List Int) (w : World) (hr : RdP w A m ns) (hx : RdI w B nn xs) (hnn : nn ≤ 1000000)
    (CRe : ∀ W, RdP W A m ns → Calls Try.prog 16 #[.agg #[.int .i64 k, .int .i64 d, .int .i64 n, .int .i64 q, .int .i64 s, .slice A m c]] W fun e w' => e = .returned (.int .i64 (0)) ∧ Below W.heap.size W w')
    (CSg : ∀ W, RdI W B nn xs → Calls Try.prog 25 #[.slice B nn cb] W fun e w' => e = .returned (.int .i64 (0)) ∧ W = w')
    (CPs : ∀ W, RdP W A m ns → Calls Try.prog 19 #[.agg #[.int .i64 k, .int .i64 d, .int .i64 n, .int .i64 q, .int .i64 s, .slice A m c], .int .i64 nn] W (RdResB W false 0 []))
    : Calls Try.prog 24 #[.agg #[.int .i64 k, .int .i64 d, .int .i64 n, .int .i64 q, .int .i64 s, .slice A m c], .slice B nn cb] w (OwnRes w (8) []) := by
  have CRe := Lib.hid CRe
  have CSg := Lib.hid CSg
  have CPs := Lib.hid CPs
  have X0 := Lib.hid (hr.below (below1 w (.cells #[.int .i64 k, .int .i64 d, .int .i64 n, .int .i64 q, .int .i64 s, .slice A m c] 26)))
  have Y0 := Lib.hid (hx.below (below1 w (.cells #[.int .i64 k, .int .i64 d, .int .i64 n, .int .i64 q, .int .i64 s, .slice A m c] 26)))
  have K0 := Lib.hid (Bk.new w 26 #[.int .i64 k, .int .i64 d, .int .i64 n, .int .i64 q, .int .i64 s, .slice A m c])
  have B0 := Lib.hid (below1 w (.cells #[.int .i64 k, .int .i64 d, .int .i64 n, .int .i64 q, .int .i64 s, .slice A m c] 26))
  clear hr hx
  go_enter Try.func24, Try.ntmps24
  obtain ⟨c0, c1, c2, c3, c4, c5⟩ := bk6 K0.out
  go_wp2_with fail
  refine (CRe.out _ X0.out).mono ?_
  rintro e w1 ⟨rfl, hb⟩
  have X1 := Lib.hid (X0.out.below hb)
  have Y1 := Lib.hid (Y0.out.below hb)
  have K1 := Lib.hid (K0.out.later hb)
  have B1 := Lib.hid (B0.out.trans (hb.mono B0.out.size))
  clear X0 Y0 K0 B0 hb
  clear c0 c1 c2 c3 c4 c5
  go_wp2_with fail
  refine (CSg.out _ Y1.out).mono ?_
  rintro e w' ⟨rfl, rfl⟩
  obtain ⟨c0, c1, c2, c3, c4, c5⟩ := bk6 K1.out
  go_wp2_with fail
  refine (CPs.out _ X1.out).mono ?_
  rintro e w2 ⟨⟨APo, cPo, rfl, hrPo⟩, hb⟩
  have X2 := Lib.hid (X1.out.below hb)
  have Y2 := Lib.hid (Y1.out.below hb)
  have K2 := Lib.hid (K1.out.later hb)
  have B2 := Lib.hid (B1.out.trans (hb.mono B1.out.size))
  clear X1 Y1 K1 B1 hb
  have Po2 := Lib.hid hrPo
  clear hrPo
  clear c0 c1 c2 c3 c4 c5
  go_wp2
  go_ret2
  exact OwnRes.none_ B2.out
set_option maxRecDepth 100000 in
set_option maxHeartbeats 4000000 in
theorem rrs_ok (k d n q s : Int) (A : Option Addr) (m c : Nat) (ns : List (Int × Int)) (B : Option Addr) (nn cb : Nat) (xs : List Int) (w : World) (hr : RdP w A m ns) (hx : RdI w B nn xs) (hnn : nn ≤ 1000000) (l : Nat) (L : List Int) (f num : Int → Int) (den : Int) (hl : l ≤ 2000) (hLl : L.length = l) (hln : 0 < l → 0 < nn) (hden : 0 < den ∧ den ≤ 2000000)
    (CRe : ∀ W, RdP W A m ns → Calls Try.prog 16 #[.agg #[.int .i64 k, .int .i64 d, .int .i64 n, .int .i64 q, .int .i64 s, .slice A m c]] W fun e w' => e = .returned (.int .i64 (0)) ∧ Below W.heap.size W w')
    (CSg : ∀ W, RdI W B nn xs → Calls Try.prog 25 #[.slice B nn cb] W fun e w' => e = .returned (.int .i64 (0)) ∧ W = w')
    (CPs : ∀ W, RdP W A m ns → Calls Try.prog 19 #[.agg #[.int .i64 k, .int .i64 d, .int .i64 n, .int .i64 q, .int .i64 s, .slice A m c], .int .i64 nn] W (RdResB W true l L))
    (CV : ∀ p W, 0 < nn → RdI W B nn xs → 0 ≤ p ∧ p ≤ 100000000 → Calls Try.prog 73 #[.int .i64 d, .slice B nn cb, .int .i64 p] W fun e w' => e = .returned (.tuple #[.int .i64 (num p), .int .i64 den]) ∧ Below W.heap.size W w')
    (HPB : ∀ i, i < l → 0 ≤ L.getD i 0 ∧ L.getD i 0 ≤ 100000000)
    (HNB : ∀ p, 0 ≤ p ∧ p ≤ 100000000 → -1000000000000000 ≤ num p ∧ num p ≤ 1000000000000000)
    (HFV : ∀ p, outV (num p) den = f p)
    : Calls Try.prog 24 #[.agg #[.int .i64 k, .int .i64 d, .int .i64 n, .int .i64 q, .int .i64 s, .slice A m c], .slice B nn cb] w (OwnRes w (0) (L.map f)) := by
  have CRe := Lib.hid CRe
  have CSg := Lib.hid CSg
  have CPs := Lib.hid CPs
  have CV := Lib.hid CV
  have HPB := Lib.hid HPB
  have HNB := Lib.hid HNB
  have HFV := Lib.hid HFV
  have X0 := Lib.hid (hr.below (below1 w (.cells #[.int .i64 k, .int .i64 d, .int .i64 n, .int .i64 q, .int .i64 s, .slice A m c] 26)))
  have Y0 := Lib.hid (hx.below (below1 w (.cells #[.int .i64 k, .int .i64 d, .int .i64 n, .int .i64 q, .int .i64 s, .slice A m c] 26)))
  have K0 := Lib.hid (Bk.new w 26 #[.int .i64 k, .int .i64 d, .int .i64 n, .int .i64 q, .int .i64 s, .slice A m c])
  have B0 := Lib.hid (below1 w (.cells #[.int .i64 k, .int .i64 d, .int .i64 n, .int .i64 q, .int .i64 s, .slice A m c] 26))
  obtain ⟨i0, hi0, hza, hzb, hzc⟩ := info_parts intInfo'
  have HX1 : Hid (xs.length = nn) := hx.1
  have HPL := Lib.hid hLl
  have HML : Hid ((L.map f).length = l) := Lib.hid (by rw [List.length_map]; exact HPL.out)
  have HFA : Hid (∀ i, i < l → (L.map f).getD i 0 = f (L.getD i 0)) := Lib.hid (fun i hi => by have := HPL.out; simp [List.getD_eq_getElem?_getD, List.getElem?_eq_getElem (show i < L.length by omega)])
  obtain ⟨M, hM⟩ : ∃ M, L.map f = M := ⟨_, rfl⟩
  rw [hM] at HML HFA ⊢
  clear hM hLl
  have HLN := Lib.hid hln
  clear hln
  clear hr hx
  go_enter Try.func24, Try.ntmps24
  obtain ⟨c0, c1, c2, c3, c4, c5⟩ := bk6 K0.out
  go_wp2_with fail
  refine (CRe.out _ X0.out).mono ?_
  rintro e w1 ⟨rfl, hb⟩
  have X1 := Lib.hid (X0.out.below hb)
  have Y1 := Lib.hid (Y0.out.below hb)
  have K1 := Lib.hid (K0.out.later hb)
  have B1 := Lib.hid (B0.out.trans (hb.mono B0.out.size))
  clear X0 Y0 K0 B0 hb
  clear c0 c1 c2 c3 c4 c5
  go_wp2_with fail
  refine (CSg.out _ Y1.out).mono ?_
  rintro e w' ⟨rfl, rfl⟩
  obtain ⟨c0, c1, c2, c3, c4, c5⟩ := bk6 K1.out
  go_wp2_with fail
  refine (CPs.out _ X1.out).mono ?_
  rintro e w2 ⟨⟨APo, cPo, rfl, hrPo⟩, hb⟩
  have X2 := Lib.hid (X1.out.below hb)
  have Y2 := Lib.hid (Y1.out.below hb)
  have K2 := Lib.hid (K1.out.later hb)
  have B2 := Lib.hid (B1.out.trans (hb.mono B1.out.size))
  clear X1 Y1 K1 B1 hb
  have Po2 := Lib.hid hrPo
  clear hrPo
  clear c0 c1 c2 c3 c4 c5
  go_wp2
  go_loopw [10, 11] (fun o i wr => ∃ (u : Nat) (Z : Option Addr) (cz : Nat), u ≤ l ∧ i = .int .i64 u ∧ o = .slice Z u cz ∧ Hid (wr.ownsRow w2.heap.size 3 1 (.slice Z u cz) u (takeV M u)) ∧ Hid (Below w2.heap.size w2 wr)) (fun _ i _ => l - (intOf i).toNat)
  case atStart => exact ⟨0, none, 0, Nat.zero_le _, rfl, rfl, Lib.hid (World.ownsRow_nil _ _ _ _), Lib.hid (Below.refl _ _)⟩
  case round =>
    obtain ⟨u, Z, cz, hu, rfl, rfl, HO, HB⟩ := hrel
    by_cases hlt : u < l
    · have hK := K2.out.later HB.out
      obtain ⟨c0, c1, c2, c3, c4, c5⟩ := bk6 hK
      have hP := Po2.out.below HB.out
      obtain ⟨ap, rfl, hapl, hcp⟩ := hP.2 (by omega)
      have hcu := hcp u hlt
      have hpb := HPB.out u hlt
      have HY := Lib.hid (Y2.out.below HB.out)
      have HFU := Lib.hid (HFA.out u hlt)
      obtain ⟨p, hp⟩ : ∃ p, L.getD u 0 = p := ⟨_, rfl⟩
      rw [hp] at hcu hpb HFU
      have hnb := HNB.out p hpb
      have HVE := HFV.out p
      have CVp := Lib.hid (fun W h => CV.out p W (HLN.out (by omega)) h hpb)
      obtain ⟨z, hz⟩ : ∃ z, num p = z := ⟨_, rfl⟩
      rw [hz] at hnb HVE CVp
      have HSK : Hid (∀ W, Below wr.heap.size wr W → W.cell? ⟨w.heap.size, 1, none⟩ = some (.int .i64 d) ∧ W.cell? (ap.add u) = some (.int .i64 p)) := Lib.hid (fun W hb => ⟨(bk6 (hK.later hb)).2.1, (hb.cell (by rw [addBlock]; exact hapl)).trans hcu⟩)
      have huI : (u : Int) < (l : Int) := by omega
      have hl63 : u + 1 ≤ maxLen := by simp only [maxLen]; omega
      have v1 : IntKind.i64.wrap (2 * z) = 2 * z := IntWalk.i64_in _ (by omega)
      have v2 : IntKind.i64.wrap (2 * z + den) = 2 * z + den := IntWalk.i64_in _ (by omega)
      have v3 : IntKind.i64.wrap (2 * den) = 2 * den := IntWalk.i64_in _ (by omega)
      have CFl := Lib.hid (fun W => floor_any (2 * z + den) (2 * den) (by omega) (by omega) W)
      obtain ⟨y, hy⟩ : ∃ y, (2 * z + den) / (2 * den) = y := ⟨_, rfl⟩
      rw [hy] at CFl
      have HVV : Hid (f p = max (-32767) (min y 32767)) := Lib.hid (by rw [← HVE, ← hy]; rfl)
      have hb0 : Below wr.heap.size wr wr.drew := (Below.refl _ _).drew
      clear hcp hP hp hz hy HVE c0 c1 c2 c3 c4 c5 hpb hcu hK
      go_wp2
      go_region_held3 (fun w' : World => (w'.cell? ⟨w.heap.size, 1, none⟩ = some (.int .i64 d) ∧ w'.cell? (ap.add u) = some (.int .i64 p)) ∧ Below wr.heap.size wr w') ((refine (fun hb => ⟨HSK.out _ hb, hb⟩) ?_; assumption))
        ((go_at_call 73; refine (CVp.out _ HY.out.drew).mono ?_; rintro e w3 ⟨rfl, hb3⟩; have hb4 : Below wr.heap.size wr w3 := hb0.trans hb3))
      all_goals
        have HB3 : Hid (Below w2.heap.size w2 w3) := Lib.hid (HB.out.trans (hb4.mono HB.out.size))
        have HO3 := Lib.hid (ownBelow HO.out.drew hb3)
        clear hb3 hb4 hb0 HO HB HSK
        go_wp2_with fail
        refine (CFl.out _).mono ?_
        rintro e w' ⟨rfl, rfl⟩
        clear v1 v2 v3
        by_cases h1 : -32767 < y
        · by_cases h2 : y < 32767
          · have HTS : Hid (takeV M (u + 1) = takeV M u ++ [.int .i64 (y)]) := Lib.hid (by unfold takeV; rw [take_snoc (by have := HML.out; omega), HFU.out, List.map_append, show f p = y from HVV.out.trans (by omega)]; rfl)
            have hbs : w2.heap.size ≤ (w3.alloc (.cells #[.int .i64 (y)] 3)).heap.size := by have := HB3.out.size; simp; omega
            have HAL := Lib.hid (HO3.out.alloc (.cells #[.int .i64 (y)] 3))
            go_wp2_with (at_builtin; refine wpList_append_own _ rfl (.tmp 58) (.tmp 62) 29 rfl w2.heap.size 3 i0 _ 1 8 Try.underlying29 hi0 hza hzb hzc rfl (by decide) _ u _ rfl HAL.out ⟨w3.heap.size, 0, none⟩ 1 1 [.int .i64 (y)] rfl rfl (cell_one_new _ _ _) (by simp [Value.oneCell']) hl63 (by omega) hbs ?_)
            intro v' w4 hown' hgrow _
            obtain ⟨g', cap', rfl⟩ := ownsRow_succ hown'
            have HB4 : Hid (Below w2.heap.size w2 w4) := Lib.hid ((HB3.out.alloc HB3.out.size _).grown hgrow (by have := HB3.out.size; simp; omega) (fun z e => ((HAL.out).lt z e).1))
            have HO4 : Hid (w4.ownsRow w2.heap.size 3 1 (.slice (some ⟨g', 0, none⟩) (u + 1) cap') (u + 1) (takeV M (u + 1))) := by
              refine Lib.hid ?_
              rw [HTS.out]
              exact hown'
            clear hown' hgrow HAL
            go_wp2
            go_roundw
            case rel => exact ⟨u + 1, some ⟨g', 0, none⟩, cap', by omega, by go_num, rfl, HO4, HB4⟩
            case measure => simp [intOf]; omega
          · have HTS : Hid (takeV M (u + 1) = takeV M u ++ [.int .i64 (32767)]) := Lib.hid (by unfold takeV; rw [take_snoc (by have := HML.out; omega), HFU.out, List.map_append, show f p = 32767 from HVV.out.trans (by omega)]; rfl)
            have hbs : w2.heap.size ≤ (w3.alloc (.cells #[.int .i64 (32767)] 3)).heap.size := by have := HB3.out.size; simp; omega
            have HAL := Lib.hid (HO3.out.alloc (.cells #[.int .i64 (32767)] 3))
            go_wp2_with (at_builtin; refine wpList_append_own _ rfl (.tmp 58) (.tmp 62) 29 rfl w2.heap.size 3 i0 _ 1 8 Try.underlying29 hi0 hza hzb hzc rfl (by decide) _ u _ rfl HAL.out ⟨w3.heap.size, 0, none⟩ 1 1 [.int .i64 (32767)] rfl rfl (cell_one_new _ _ _) (by simp [Value.oneCell']) hl63 (by omega) hbs ?_)
            intro v' w4 hown' hgrow _
            obtain ⟨g', cap', rfl⟩ := ownsRow_succ hown'
            have HB4 : Hid (Below w2.heap.size w2 w4) := Lib.hid ((HB3.out.alloc HB3.out.size _).grown hgrow (by have := HB3.out.size; simp; omega) (fun z e => ((HAL.out).lt z e).1))
            have HO4 : Hid (w4.ownsRow w2.heap.size 3 1 (.slice (some ⟨g', 0, none⟩) (u + 1) cap') (u + 1) (takeV M (u + 1))) := by
              refine Lib.hid ?_
              rw [HTS.out]
              exact hown'
            clear hown' hgrow HAL
            go_wp2
            go_roundw
            case rel => exact ⟨u + 1, some ⟨g', 0, none⟩, cap', by omega, by go_num, rfl, HO4, HB4⟩
            case measure => simp [intOf]; omega
        · have HTS : Hid (takeV M (u + 1) = takeV M u ++ [.int .i64 ((-32767))]) := Lib.hid (by unfold takeV; rw [take_snoc (by have := HML.out; omega), HFU.out, List.map_append, show f p = (-32767) from HVV.out.trans (by omega)]; rfl)
          have hbs : w2.heap.size ≤ (w3.alloc (.cells #[.int .i64 ((-32767))] 3)).heap.size := by have := HB3.out.size; simp; omega
          have HAL := Lib.hid (HO3.out.alloc (.cells #[.int .i64 ((-32767))] 3))
          go_wp2_with (at_builtin; refine wpList_append_own _ rfl (.tmp 58) (.tmp 62) 29 rfl w2.heap.size 3 i0 _ 1 8 Try.underlying29 hi0 hza hzb hzc rfl (by decide) _ u _ rfl HAL.out ⟨w3.heap.size, 0, none⟩ 1 1 [.int .i64 ((-32767))] rfl rfl (cell_one_new _ _ _) (by simp [Value.oneCell']) hl63 (by omega) hbs ?_)
          intro v' w4 hown' hgrow _
          obtain ⟨g', cap', rfl⟩ := ownsRow_succ hown'
          have HB4 : Hid (Below w2.heap.size w2 w4) := Lib.hid ((HB3.out.alloc HB3.out.size _).grown hgrow (by have := HB3.out.size; simp; omega) (fun z e => ((HAL.out).lt z e).1))
          have HO4 : Hid (w4.ownsRow w2.heap.size 3 1 (.slice (some ⟨g', 0, none⟩) (u + 1) cap') (u + 1) (takeV M (u + 1))) := by
            refine Lib.hid ?_
            rw [HTS.out]
            exact hown'
          clear hown' hgrow HAL
          go_wp2
          go_roundw
          case rel => exact ⟨u + 1, some ⟨g', 0, none⟩, cap', by omega, by go_num, rfl, HO4, HB4⟩
          case measure => simp [intOf]; omega
    · obtain rfl : l = u := by omega
      have huI : ¬ (l : Int) < (l : Int) := by omega
      have hfin := HO.out
      unfold takeV at hfin
      rw [List.take_of_length_le (by have := HML.out; omega)] at hfin
      have HFN := Lib.hid hfin
      have BB := B2.out.trans (HB.out.mono B2.out.size)
      have hsz := B2.out.size
      clear hfin HO
      go_wp2
      go_ret2
      refine ⟨⟨_, rfl, ?_⟩, BB⟩
      rw [HML.out]
      exact ownMono HFN.out hsz

end Go.Proofs.Ytepcciodhppbnaa


namespace Go.Proofs.Ytepcciodhppbnaa
open Go.RowKit

theorem posLo_nonneg {x1 x2 y1 y2 t : Int} (hx : 0 ≤ x1 ∧ x1 < y1) (hy : x2 < y2) (ht : x2 ≤ t) : 0 ≤ posLo x1 x2 y1 y2 t := by
  have h0 : 0 ≤ posP x1 x2 y1 t := Int.mul_nonneg (by omega) (by omega)
  have h1 := Int.emod_nonneg (posP x1 x2 y1 t) (b := y2 - x2) (by omega)
  have h2 := Int.ediv_nonneg (a := 64 * (posP x1 x2 y1 t % (y2 - x2))) (b := y2 - x2) (by omega) (by omega)
  have h3 := Int.ediv_nonneg h0 (b := y2 - x2) (by omega)
  unfold posLo
  omega
theorem posR_nonneg {t : Int} {ns : List (Int × Int)} (hE : (mapR ns).2 = 0) : 0 ≤ (posR t ns).1 := by
  unfold posR
  rw [if_pos hE]
  cases hf : findP t ns 0 (ns.length - 1) with
  | none => exact Int.le_refl _
  | some i =>
    obtain ⟨_, h2, h3⟩ := findP_spec hf
    have h4 := holdsT_iff h3
    obtain ⟨hok, _, _⟩ := mapR_ok hE
    have h5 := hok i (by omega)
    exact posLo_nonneg ⟨h5.1.1, h5.1.2.1⟩ h5.2.2.1 h4.1
/-- What a valid resampling gives. -/
theorem Resampled_01 (k d n q s : Int) (A : Option Addr) (m c : Nat) (ns : List (Int × Int)) (B : Option Addr) (nn cb : Nat) (xs : List Int) (w : World) (hr : RdN w A m ns) (hm : m ≤ 1000000) (hx : RdI w B nn xs) (hE : rulC k d n q s m ns = 0) (hS : sigE xs = 0) :
    Calls Try.prog 22 #[.agg #[.int .i64 k, .int .i64 d, .int .i64 n, .int .i64 q, .int .i64 s, .slice A m c], .slice B nn cb] w (OwnRes w (resOut (outF d xs) (posOut (if k = 0 then opR0 n q else opR1 s ns) (64 * ((nn : Int) - 1)))).2 (resOut (outF d xs) (posOut (if k = 0 then opR0 n q else opR1 s ns) (64 * ((nn : Int) - 1)))).1) := by
  obtain ⟨hd, hp⟩ := rulC_zero hE
  have hcr := fun W (hb : Below w.heap.size w W) => CheckRules_all k d n q s A m c ns W (hr.below hb) hm
  rw [hE] at hcr
  rcases hp with ⟨rfl, hn, hq, rfl, rfl⟩ | ⟨rfl, hM, hs, rfl, rfl⟩
  · rw [if_pos rfl]
    have hpos : ∀ k : Nat, 0 ≤ (opR0 n q k).1 := fun k => Int.ediv_nonneg (Int.mul_nonneg (by omega) (by omega)) (by omega)
    rcases hd with rfl | rfl
    · exact Resampled1_ok 0 n q 0 A 0 c B nn cb xs (opR0 n q) w hx hS hpos hcr (fun k W hk _ _ => outPos0_any 1 n q A c k W (by omega) hn hq)
    · exact Resampled3_ok 0 n q 0 A 0 c B nn cb xs (opR0 n q) w hx hS hpos hcr (fun k W hk _ _ => outPos0_any 3 n q A c k W (by omega) hn hq)
  · rw [if_neg (by decide)]
    obtain ⟨hok, hl2, hl20⟩ := mapR_ok hM
    have hl := hr.1
    have h0 := hok 0 (by omega)
    have hpos : ∀ k : Nat, 0 ≤ (opR1 s ns k).1 := fun k => posR_nonneg hM
    rcases hd with rfl | rfl
    · exact Resampled1_ok 1 0 0 s A m c B nn cb xs (opR1 s ns) w hx hS hpos hcr (fun k W hk h1 h2 => outPos1_any 1 s A m c ns k W (hr.heap h1 h2) (by omega) (by omega) (by omega) (by omega))
    · exact Resampled3_ok 1 0 0 s A m c B nn cb xs (opR1 s ns) w hx hS hpos hcr (fun k W hk h1 h2 => outPos1_any 3 s A m c ns k W (hr.heap h1 h2) (by omega) (by omega) (by omega) (by omega))
/-- Resampling, whatever it is given. -/
def rsE (k d n q s : Int) (m : Nat) (ns : List (Int × Int)) (xs : List Int) : List Int × Int :=
  if firstNZ [rulC k d n q s m ns, sigE xs] = 0 then resOut (outF d xs) (posOut (if k = 0 then opR0 n q else opR1 s ns) (64 * ((xs.length : Int) - 1))) else ([], firstNZ [rulC k d n q s m ns, sigE xs])
theorem Resampled_all (k d n q s : Int) (A : Option Addr) (m c : Nat) (ns : List (Int × Int)) (B : Option Addr) (nn cb : Nat) (xs : List Int) (w : World) (hr : RdN w A m ns) (hm : m ≤ 1000000) (hx : RdI w B nn xs) (hnn : nn ≤ 1000000) :
    Calls Try.prog 22 #[.agg #[.int .i64 k, .int .i64 d, .int .i64 n, .int .i64 q, .int .i64 s, .slice A m c], .slice B nn cb] w (OwnRes w (rsE k d n q s m ns xs).2 (rsE k d n q s m ns xs).1) := by
  unfold rsE
  rw [hx.1]
  by_cases hF : firstNZ [rulC k d n q s m ns, sigE xs] = 0
  · rw [if_pos hF]
    obtain ⟨hE, hS⟩ := firstNZ_zero2 hF
    exact Resampled_01 k d n q s A m c ns B nn cb xs w hr hm hx hE hS
  · rw [if_neg hF]
    exact Resampled_err k d n q s A m c B nn cb _ _ _ w rfl hF (fun W hb => CheckRules_all k d n q s A m c ns W (hr.below hb) hm) (fun W hb => checkSignal_any B nn cb xs W (hx.below hb) (by omega))
theorem posOut_len (opv : Nat → Int × Int) (last : Int) : (posOut opv last).1.length ≤ 2000 := by
  rcases posOut_two opv last with h | h
  · exact h.2
  · rw [h]; simp
theorem resOut_len (f : Int → Int) (p : List Int × Int) : (resOut f p).1.length ≤ p.1.length := by
  unfold resOut
  by_cases h : p.2 = 0
  · rw [if_pos h]; simp
  · rw [if_neg h]; simp
theorem rsE_len (k d n q s : Int) (m : Nat) (ns : List (Int × Int)) (xs : List Int) : (rsE k d n q s m ns xs).1.length ≤ 2000 := by
  unfold rsE
  by_cases h : firstNZ [rulC k d n q s m ns, sigE xs] = 0
  · rw [if_pos h]
    exact Nat.le_trans (resOut_len _ _) (posOut_len _ _)
  · rw [if_neg h]; simp
theorem refResampled_all (k d n q s : Int) (A : Option Addr) (m c : Nat) (ns : List (Int × Int)) (B : Option Addr) (nn cb : Nat) (xs : List Int) (w : World) (hr : RdP w A m ns) (hm : m ≤ 1000000) (hx : RdI w B nn xs) (hnn : nn ≤ 1000000) :
    Calls Try.prog 24 #[.agg #[.int .i64 k, .int .i64 d, .int .i64 n, .int .i64 q, .int .i64 s, .slice A m c], .slice B nn cb] w (OwnRes w (rsE k d n q s m ns xs).2 (rsE k d n q s m ns xs).1) := by
  have CRe := fun W (h : RdP W A m ns) => refRulesErr_any k d n q s A m c ns W h hm
  have CSg := fun W (h : RdI W B nn xs) => refSignalErr_any B nn cb xs W h (by omega)
  unfold rsE
  rw [hx.1]
  by_cases hE : rulC k d n q s m ns = 0
  rotate_left
  · have e : firstNZ [rulC k d n q s m ns, sigE xs] = rulC k d n q s m ns := by simp [firstNZ, hE]
    rw [e, if_neg hE]
    exact rrs_D k d n q s A m c ns B nn cb xs w hr hx hnn _ hE CRe
  by_cases hS : sigE xs = 0
  rotate_left
  · have e : firstNZ [rulC k d n q s m ns, sigE xs] = sigE xs := by simp [firstNZ, hE, hS]
    rw [e, if_neg hS]
    rw [hE] at CRe
    exact rrs_S k d n q s A m c ns B nn cb xs w hr hx hnn _ hS CRe CSg
  have e : firstNZ [rulC k d n q s m ns, sigE xs] = 0 := by rw [hE, hS]; rfl
  rw [if_pos e]
  obtain ⟨hl4, hxs⟩ := sigE_zero hS
  rw [hx.1] at hl4
  have C2 := fun W (h : RdP W A m ns) => refPositions_01 k d n q s A m c ns nn W h hm hl4 hE
  obtain ⟨hd, hpk⟩ := rulC_zero hE
  have hpos : ∀ i : Nat, 0 ≤ ((if k = 0 then opR0 n q else opR1 s ns) i).1 := fun i => by
    rcases hpk with ⟨rfl, hn, hq, rfl, rfl⟩ | ⟨rfl, hM, hs, rfl, rfl⟩
    · rw [if_pos rfl]; exact Int.ediv_nonneg (Int.mul_nonneg (by omega) (by omega)) (by omega)
    · rw [if_neg (by decide)]; exact posR_nonneg hM
  rw [hE] at CRe
  rw [hS] at CSg
  have h2 := posOut_two (if k = 0 then opR0 n q else opR1 s ns) (64 * ((nn : Int) - 1))
  have hmem : ∀ p ∈ (posOut (if k = 0 then opR0 n q else opR1 s ns) (64 * ((nn : Int) - 1))).1, 0 ≤ p ∧ p ≤ 64 * ((nn : Int) - 1) := fun p hp => by
    obtain ⟨h1, i, rfl⟩ := posOut_mem hp
    exact ⟨hpos i, h1⟩
  obtain ⟨⟨L, E⟩, hL⟩ : ∃ x, posOut (if k = 0 then opR0 n q else opR1 s ns) (64 * ((nn : Int) - 1)) = x := ⟨_, rfl⟩
  rw [hL] at C2 h2 hmem ⊢
  rcases h2 with ⟨h3, h4⟩ | h3
  rotate_left
  · injection h3 with h3 h4
    subst h3 h4
    exact rrs_M k d n q s A m c ns B nn cb xs w hr hx hnn CRe CSg (fun W h => (C2 W h).mono fun e w' ho => by have := ho.rd rfl; rwa [show decide ((8 : Int) = 0) = false by decide] at this)
  · simp only at h3 h4
    subst h3
    have hgm : ∀ i, i < L.length → 0 ≤ L.getD i 0 ∧ L.getD i 0 ≤ 64 * ((nn : Int) - 1) := fun i hi => hmem _ (by rw [List.getD_eq_getElem?_getD, List.getElem?_eq_getElem hi]; exact List.getElem_mem hi)
    have hln : 0 < L.length → 0 < nn := fun h => by have := hgm 0 h; omega
    have C2' := fun W (h : RdP W A m ns) => (C2 W h).mono fun e w' ho => (by have := ho.rd rfl; rwa [show decide ((0 : Int) = 0) = true by decide] at this : RdResB W true L.length L e w')
    unfold resOut
    rw [if_pos rfl]
    rcases hd with rfl | rfl
    · exact rrs_ok k 1 n q s A m c ns B nn cb xs w hr hx hnn L.length L (outF 1 xs) (vnum1 xs) 64 h4 rfl hln (by omega) CRe CSg C2'
        (fun p W h0 h hp => refValue1_any B nn cb xs p W h ⟨h0, hnn⟩ hxs hp) (fun i hi => by have := hgm i hi; omega) (fun p hp => by have := num1_bd (xs := xs) hxs hp.1; omega) (fun p => rfl)
    · exact rrs_ok k 3 n q s A m c ns B nn cb xs w hr hx hnn L.length L (outF 3 xs) (vnum3 xs) 1572864 h4 rfl hln (by omega) CRe CSg C2'
        (fun p W h0 h hp => refValue3_any B nn cb xs p W h ⟨h0, hnn⟩ hxs hp) (fun i hi => by have := hgm i hi; omega) (fun p hp => by have := num3_bd (xs := xs) hxs hp.1; omega) (fun p => rfl)
set_option maxRecDepth 100000 in
set_option maxHeartbeats 4000000 in
theorem row_far (k d n q s : Int) (A : Option Addr) (m c : Nat) (ns : List (Int × Int)) (B : Option Addr) (nn cb : Nat) (xs : List Int) (w : World) (hm : ¬ m ≤ 22) (hr : RdP w A m ns) (hx : RdI w B nn xs) (hA : A = none → m = 0 ∧ c = 0) (hB : B = none → nn = 0 ∧ cb = 0) (hn0 : nn ≤ 9223372036854775807)
    : Calls Try.prog 4 #[.agg #[.int .i64 k, .int .i64 d, .int .i64 n, .int .i64 q, .int .i64 s, .slice A m c], .slice B nn cb] w fun e w' => e = .returned (.bool true) ∧ Below w.heap.size w w' := by
  have CFw := Lib.hid (fun W => few_any A m c W)
  rw [decide_eq_false hm] at CFw
  have X0 := Lib.hid (hr.below (below1 w (.cells #[.int .i64 k, .int .i64 d, .int .i64 n, .int .i64 q, .int .i64 s, .slice A m c] 26)))
  have Y0 := Lib.hid (hx.below (below1 w (.cells #[.int .i64 k, .int .i64 d, .int .i64 n, .int .i64 q, .int .i64 s, .slice A m c] 26)))
  have K0 := Lib.hid (Bk.new w 26 #[.int .i64 k, .int .i64 d, .int .i64 n, .int .i64 q, .int .i64 s, .slice A m c])
  have B0 := Lib.hid (below1 w (.cells #[.int .i64 k, .int .i64 d, .int .i64 n, .int .i64 q, .int .i64 s, .slice A m c] 26))
  clear hr hx hA hB
  go_enter Try.func4, Try.ntmps4
  go_wp2_with fail
  refine (awake_any _).mono ?_
  rintro e w1 ⟨rfl, hb⟩
  have X1 := Lib.hid (X0.out.below hb)
  have Y1 := Lib.hid (Y0.out.below hb)
  have K1 := Lib.hid (K0.out.later hb)
  have B1 := Lib.hid (B0.out.trans (hb.mono B0.out.size))
  clear X0 Y0 K0 B0 hb
  obtain ⟨c0, c1, c2, c3, c4, c5⟩ := bk6 K1.out
  go_wp2_with fail
  refine (CFw.out _).mono ?_
  rintro e w2 ⟨rfl, hb⟩
  have X2 := Lib.hid (X1.out.below hb)
  have Y2 := Lib.hid (Y1.out.below hb)
  have K2 := Lib.hid (K1.out.later hb)
  have B2 := Lib.hid (B1.out.trans (hb.mono B1.out.size))
  clear X1 Y1 K1 B1 hb
  clear c0 c1 c2 c3 c4 c5
  go_wp2
  go_ret
  exact ⟨by simp, B2.out⟩
set_option maxRecDepth 100000 in
set_option maxHeartbeats 4000000 in
theorem row_short (k d n q s : Int) (A : Option Addr) (m c : Nat) (ns : List (Int × Int)) (B : Option Addr) (nn cb : Nat) (xs : List Int) (w : World) (hm : m ≤ 22) (hsh : shortB nn = false) (hr : RdP w A m ns) (hx : RdI w B nn xs) (hA : A = none → m = 0 ∧ c = 0) (hB : B = none → nn = 0 ∧ cb = 0) (hn0 : nn ≤ 9223372036854775807)
    : Calls Try.prog 4 #[.agg #[.int .i64 k, .int .i64 d, .int .i64 n, .int .i64 q, .int .i64 s, .slice A m c], .slice B nn cb] w fun e w' => e = .returned (.bool true) ∧ Below w.heap.size w w' := by
  have CFw := Lib.hid (fun W => few_any A m c W)
  rw [decide_eq_true hm] at CFw
  have CSh := Lib.hid (fun W => short_any B nn cb W (by omega))
  rw [hsh] at CSh
  clear hsh
  have X0 := Lib.hid (hr.below (below1 w (.cells #[.int .i64 k, .int .i64 d, .int .i64 n, .int .i64 q, .int .i64 s, .slice A m c] 26)))
  have Y0 := Lib.hid (hx.below (below1 w (.cells #[.int .i64 k, .int .i64 d, .int .i64 n, .int .i64 q, .int .i64 s, .slice A m c] 26)))
  have K0 := Lib.hid (Bk.new w 26 #[.int .i64 k, .int .i64 d, .int .i64 n, .int .i64 q, .int .i64 s, .slice A m c])
  have B0 := Lib.hid (below1 w (.cells #[.int .i64 k, .int .i64 d, .int .i64 n, .int .i64 q, .int .i64 s, .slice A m c] 26))
  clear hr hx hA hB
  go_enter Try.func4, Try.ntmps4
  go_wp2_with fail
  refine (awake_any _).mono ?_
  rintro e w1 ⟨rfl, hb⟩
  have X1 := Lib.hid (X0.out.below hb)
  have Y1 := Lib.hid (Y0.out.below hb)
  have K1 := Lib.hid (K0.out.later hb)
  have B1 := Lib.hid (B0.out.trans (hb.mono B0.out.size))
  clear X0 Y0 K0 B0 hb
  obtain ⟨c0, c1, c2, c3, c4, c5⟩ := bk6 K1.out
  go_wp2_with fail
  refine (CFw.out _).mono ?_
  rintro e w2 ⟨rfl, hb⟩
  have X2 := Lib.hid (X1.out.below hb)
  have Y2 := Lib.hid (Y1.out.below hb)
  have K2 := Lib.hid (K1.out.later hb)
  have B2 := Lib.hid (B1.out.trans (hb.mono B1.out.size))
  clear X1 Y1 K1 B1 hb
  clear c0 c1 c2 c3 c4 c5
  go_wp2_with fail
  refine (CSh.out _).mono ?_
  rintro e w' ⟨rfl, rfl⟩
  go_wp2
  go_ret
  exact ⟨by simp, B2.out⟩
set_option maxRecDepth 100000 in
set_option maxHeartbeats 4000000 in
theorem row_ok (k d n q s : Int) (A : Option Addr) (m c : Nat) (ns : List (Int × Int)) (B : Option Addr) (nn cb : Nat) (xs : List Int) (w : World) (hm : m ≤ 22) (hsh : shortB nn = true) (hnn : nn ≤ 402) (E : Int) (l : Nat) (L : List Int) (hl : l ≤ 2000) (hr : RdP w A m ns) (hx : RdI w B nn xs) (hA : A = none → m = 0 ∧ c = 0) (hB : B = none → nn = 0 ∧ cb = 0) (hn0 : nn ≤ 9223372036854775807)
    (CRs : ∀ A' c' B' d' W, RdN W A' m ns → RdI W B' nn xs → Calls Try.prog 22 #[.agg #[.int .i64 k, .int .i64 d, .int .i64 n, .int .i64 q, .int .i64 s, .slice A' m c'], .slice B' nn d'] W (RdRes W E l L))
    (CRf : ∀ W, RdP W A m ns → RdI W B nn xs → Calls Try.prog 24 #[.agg #[.int .i64 k, .int .i64 d, .int .i64 n, .int .i64 q, .int .i64 s, .slice A m c], .slice B nn cb] W (RdRes W E l L))
    : Calls Try.prog 4 #[.agg #[.int .i64 k, .int .i64 d, .int .i64 n, .int .i64 q, .int .i64 s, .slice A m c], .slice B nn cb] w fun e w' => e = .returned (.bool true) ∧ Below w.heap.size w w' := by
  have CFw := Lib.hid (fun W => few_any A m c W)
  rw [decide_eq_true hm] at CFw
  have CSh := Lib.hid (fun W => short_any B nn cb W (by omega))
  rw [hsh] at CSh
  clear hsh
  have CCR : Hid (∀ W, RdP W A m ns → Calls Try.prog 15 #[.agg #[.int .i64 k, .int .i64 d, .int .i64 n, .int .i64 q, .int .i64 s, .slice A m c]] W (CpRul W k d n q s m ns)) := fun W h => copyRules_any k d n q s A m c ns W hA h (by omega)
  have CCI : Hid (∀ W, RdI W B nn xs → Calls Try.prog 23 #[.slice B nn cb] W (RdOne W nn xs)) := fun W h => (copyInts_any B nn cb xs W hB h (by omega)).mono fun e w' ho => ho.rd h.1
  have hEE : (E == E) = true := by simp
  have CRs := Lib.hid CRs
  have CRf := Lib.hid CRf
  have X0 := Lib.hid (hr.below (below1 w (.cells #[.int .i64 k, .int .i64 d, .int .i64 n, .int .i64 q, .int .i64 s, .slice A m c] 26)))
  have Y0 := Lib.hid (hx.below (below1 w (.cells #[.int .i64 k, .int .i64 d, .int .i64 n, .int .i64 q, .int .i64 s, .slice A m c] 26)))
  have K0 := Lib.hid (Bk.new w 26 #[.int .i64 k, .int .i64 d, .int .i64 n, .int .i64 q, .int .i64 s, .slice A m c])
  have B0 := Lib.hid (below1 w (.cells #[.int .i64 k, .int .i64 d, .int .i64 n, .int .i64 q, .int .i64 s, .slice A m c] 26))
  clear hr hx hA hB
  go_enter Try.func4, Try.ntmps4
  go_wp2_with fail
  refine (awake_any _).mono ?_
  rintro e w1 ⟨rfl, hb⟩
  have X1 := Lib.hid (X0.out.below hb)
  have Y1 := Lib.hid (Y0.out.below hb)
  have K1 := Lib.hid (K0.out.later hb)
  have B1 := Lib.hid (B0.out.trans (hb.mono B0.out.size))
  clear X0 Y0 K0 B0 hb
  obtain ⟨c0, c1, c2, c3, c4, c5⟩ := bk6 K1.out
  go_wp2_with fail
  refine (CFw.out _).mono ?_
  rintro e w2 ⟨rfl, hb⟩
  have X2 := Lib.hid (X1.out.below hb)
  have Y2 := Lib.hid (Y1.out.below hb)
  have K2 := Lib.hid (K1.out.later hb)
  have B2 := Lib.hid (B1.out.trans (hb.mono B1.out.size))
  clear X1 Y1 K1 B1 hb
  clear c0 c1 c2 c3 c4 c5
  go_wp2_with fail
  refine (CSh.out _).mono ?_
  rintro e w' ⟨rfl, rfl⟩
  obtain ⟨c0, c1, c2, c3, c4, c5⟩ := bk6 K2.out
  go_wp2_with fail
  refine (CCR.out _ X2.out).mono ?_
  rintro e w3 ⟨⟨gRa, cRa, rfl, hrRa, _⟩, hb⟩
  have X3 := Lib.hid (X2.out.below hb)
  have Y3 := Lib.hid (Y2.out.below hb)
  have K3 := Lib.hid (K2.out.later hb)
  have B3 := Lib.hid (B2.out.trans (hb.mono B2.out.size))
  clear X2 Y2 K2 B2 hb
  have Ra3 := Lib.hid hrRa
  clear hrRa
  clear c0 c1 c2 c3 c4 c5
  go_wp2_with fail
  refine (CCI.out _ Y3.out).mono ?_
  rintro e w4 ⟨⟨AXa, cXa, rfl, hrXa⟩, hb⟩
  have X4 := Lib.hid (X3.out.below hb)
  have Y4 := Lib.hid (Y3.out.below hb)
  have K4 := Lib.hid (K3.out.later hb)
  have B4 := Lib.hid (B3.out.trans (hb.mono B3.out.size))
  have Ra4 := Lib.hid (Ra3.out.below hb)
  clear X3 Y3 K3 B3 Ra3 hb
  have Xa4 := Lib.hid hrXa
  clear hrXa
  go_wp2_with fail
  refine (CRs.out _ _ _ _ _ Ra4.out Xa4.out).mono ?_
  rintro e w5 ⟨⟨AYa, cYa, rfl, hrYa⟩, hb⟩
  have X5 := Lib.hid (X4.out.below hb)
  have Y5 := Lib.hid (Y4.out.below hb)
  have K5 := Lib.hid (K4.out.later hb)
  have B5 := Lib.hid (B4.out.trans (hb.mono B4.out.size))
  have Ra5 := Lib.hid (Ra4.out.below hb)
  have Xa5 := Lib.hid (Xa4.out.below hb)
  clear X4 Y4 K4 B4 Ra4 Xa4 hb
  have Ya5 := Lib.hid hrYa
  clear hrYa
  obtain ⟨c0, c1, c2, c3, c4, c5⟩ := bk6 K5.out
  go_wp2_with fail
  refine (CRf.out _ X5.out Y5.out).mono ?_
  rintro e w6 ⟨⟨AYb, cYb, rfl, hrYb⟩, hb⟩
  have X6 := Lib.hid (X5.out.below hb)
  have Y6 := Lib.hid (Y5.out.below hb)
  have K6 := Lib.hid (K5.out.later hb)
  have B6 := Lib.hid (B5.out.trans (hb.mono B5.out.size))
  have Ya6 := Lib.hid (Ya5.out.below hb)
  clear X5 Y5 K5 B5 Ya5 hb
  have Yb6 := Lib.hid hrYb
  clear hrYb
  clear c0 c1 c2 c3 c4 c5
  go_wp2_with fail
  refine (ints_same _ _ _ _ _ _ _ Ya6.out Yb6.out (by omega)).mono ?_
  rintro e w' ⟨rfl, kk, rfl⟩
  have X7 := Lib.hid (X6.out.drewN kk)
  have Y7 := Lib.hid (Y6.out.drewN kk)
  have K7 := Lib.hid (K6.out.drewN kk)
  have B7 := Lib.hid (belowDrewN B6.out kk)
  have Ya7 := Lib.hid (Ya6.out.drewN kk)
  have Yb7 := Lib.hid (Yb6.out.drewN kk)
  clear X6 Y6 K6 B6 Ya6 Yb6
  obtain ⟨w7, hw7⟩ : ∃ W, w6.drewN kk = W := ⟨_, rfl⟩
  rw [hw7] at X7 Y7 K7 B7 Ya7 Yb7 ⊢
  clear hw7
  go_wp2
  go_ret
  exact ⟨by simp, B7.out⟩
theorem outputs_walk (k d n q s : Int) (A : Option Addr) (m c : Nat) (ns : List (Int × Int)) (B : Option Addr) (nn cb : Nat) (xs : List Int) (w : World) (hr : RdP w A m ns) (hm0 : m ≤ 9223372036854775807) (hA : A = none → m = 0 ∧ c = 0) (hx : RdI w B nn xs) (hn0 : nn ≤ 9223372036854775807) (hB : B = none → nn = 0 ∧ cb = 0) :
    Calls Try.prog 4 #[.agg #[.int .i64 k, .int .i64 d, .int .i64 n, .int .i64 q, .int .i64 s, .slice A m c], .slice B nn cb] w fun e w' => e = .returned (.bool true) ∧ Below w.heap.size w w' := by
  by_cases hm : m ≤ 22
  rotate_left
  · exact row_far k d n q s A m c ns B nn cb xs w hm hr hx hA hB hn0
  cases hsh : shortB nn with
  | false => exact row_short k d n q s A m c ns B nn cb xs w hm hsh hr hx hA hB hn0
  | true =>
    have hnn : nn ≤ 402 := by
      unfold shortB at hsh
      have := of_decide_eq_true hsh
      omega
    exact row_ok k d n q s A m c ns B nn cb xs w hm hsh hnn _ _ _ (rsE_len k d n q s m ns xs) hr hx hA hB hn0
      (fun A' c' B' d' W h1 h2 => (Resampled_all k d n q s A' m c' ns B' nn d' xs W h1 (by omega) h2 (by omega)).mono fun e w' ho => ho.rd rfl)
      (fun W h1 h2 => (refResampled_all k d n q s A m c ns B nn cb xs W h1 (by omega) h2 (by omega)).mono fun e w' ho => ho.rd rfl)

end Go.Proofs.Ytepcciodhppbnaa


namespace Go.Proofs.Ytepcciodhppbnaa
open Go.RowKit

/-! ### the positions ascend -/
theorem posLo_eq {x1 x2 y1 y2 t : Int} (hy : x2 < y2) : posLo x1 x2 y1 y2 t = 64 * posP x1 x2 y1 t / (y2 - x2) + 64 * x1 := by
  unfold posLo
  generalize posP x1 x2 y1 t = P
  have hD : 0 < y2 - x2 := by omega
  generalize y2 - x2 = D at hD
  have e : 64 * P = 64 * (P % D) + (64 * (P / D)) * D := by
    have h := Int.mul_ediv_add_emod P D
    have h2 : (64 * (P / D)) * D = 64 * (D * (P / D)) := by rw [Int.mul_assoc, Int.mul_comm (P / D) D]
    omega
  rw [e, Int.add_mul_ediv_right _ _ (by omega)]
  omega
theorem posLo_mono {x1 x2 y1 y2 t u : Int} (hx : x1 < y1) (hy : x2 < y2) (h : t ≤ u) : posLo x1 x2 y1 y2 t ≤ posLo x1 x2 y1 y2 u := by
  rw [posLo_eq hy, posLo_eq hy]
  have h1 : posP x1 x2 y1 t ≤ posP x1 x2 y1 u := Int.mul_le_mul_of_nonneg_left (by omega) (by omega)
  have h2 : 64 * posP x1 x2 y1 t / (y2 - x2) ≤ 64 * posP x1 x2 y1 u / (y2 - x2) := Int.ediv_le_ediv (by omega) (by omega)
  omega
theorem posLo_start {x1 x2 y1 y2 : Int} (hy : x2 < y2) : posLo x1 x2 y1 y2 x2 = 64 * x1 := by
  rw [posLo_eq hy]
  unfold posP
  simp
theorem posLo_end {x1 x2 y1 y2 : Int} (hy : x2 < y2) : posLo x1 x2 y1 y2 y2 = 64 * y1 := by
  rw [posLo_eq hy]
  unfold posP
  rw [← Int.mul_assoc, Int.mul_ediv_cancel _ (by omega)]
  omega
theorem nodes_pos_le {ns : List (Int × Int)} (hok : nodesOk ns) : ∀ (k j : Nat), j + k < ns.length → (ns.getD j (0, 0)).1 ≤ (ns.getD (j + k) (0, 0)).1
  | 0, j, _ => Int.le_refl _
  | k + 1, j, h => by
    have h1 := nodes_pos_le hok k j (by omega)
    have h2 := hok (j + k) (by omega)
    have : j + (k + 1) = j + k + 1 := by omega
    rw [this]
    omega
theorem posR_mono {t u : Int} {ns : List (Int × Int)} (hE : (mapR ns).2 = 0) (h0 : (ns.getD 0 (0, 0)).2 ≤ t) (htu : t ≤ u) (h1 : u ≤ (ns.getD (ns.length - 1) (0, 0)).2) : (posR t ns).1 ≤ (posR u ns).1 := by
  obtain ⟨hok, hl2, hl20⟩ := mapR_ok hE
  obtain ⟨p, hp, hb, ha, hc⟩ := first_piece (t := t) (ns := ns) (ns.length - 1) (by omega) (by omega) h0 (by omega)
  obtain ⟨r, hr, rb, ra, rc⟩ := first_piece (t := u) (ns := ns) (ns.length - 1) (by omega) (by omega) (by omega) h1
  rw [posR_at hE (by omega) hb ha hc, posR_at hE (by omega) rb ra rc]
  have kp := hok p (by omega)
  have kr := hok r (by omega)
  show posLo _ _ _ _ _ ≤ posLo _ _ _ _ _
  by_cases hpr : p = r
  · subst hpr
    exact posLo_mono kp.1.2.1 kp.2.2.1 htu
  · by_cases hlt : p < r
    · have e1 := posLo_mono (t := t) (u := (ns.getD (p + 1) (0, 0)).2) kp.1.2.1 kp.2.2.1 hc
      have e2 := posLo_mono (t := (ns.getD r (0, 0)).2) (u := u) kr.1.2.1 kr.2.2.1 ra
      rw [posLo_end kp.2.2.1] at e1
      rw [posLo_start kr.2.2.1] at e2
      have e3 := nodes_pos_le hok (r - (p + 1)) (p + 1) (by omega)
      rw [show p + 1 + (r - (p + 1)) = r by omega] at e3
      omega
    · exfalso
      have h2 := hb r (by omega)
      omega
theorem opR0_mono {n q : Int} (hn : 1 ≤ n) (hq : 1 ≤ q) (k : Nat) : (opR0 n q k).1 ≤ (opR0 n q (k + 1)).1 := by
  show 64 * (k : Int) * n / q ≤ 64 * ((k + 1 : Nat) : Int) * n / q
  exact Int.ediv_le_ediv (by omega) (Int.mul_le_mul_of_nonneg_right (by omega) (by omega))
theorem opR1_mono {s : Int} {ns : List (Int × Int)} (hE : (mapR ns).2 = 0) (hs : 1 ≤ s) (k : Nat) (h2 : (opR1 s ns (k + 1)).2 = 0) : (opR1 s ns k).1 ≤ (opR1 s ns (k + 1)).1 := by
  obtain ⟨hok, hl2, hl20⟩ := mapR_ok hE
  have e : ((k + 1 : Nat) : Int) * s = (k : Int) * s + s := by
    rw [show ((k + 1 : Nat) : Int) = (k : Int) + 1 by omega, Int.add_mul, Int.one_mul]
  have h0 : 0 ≤ (k : Int) * s := Int.mul_nonneg (by omega) (by omega)
  unfold opR1 at h2 ⊢
  simp only at h2 ⊢
  refine posR_mono hE (by omega) (by omega) ?_
  refine Classical.byContradiction fun h => ?_
  rw [posR_past hE (fun i hi => by
    have := nodes_le hok (ns.length - 1 - (i + 1)) (i + 1) (by omega)
    rw [show i + 1 + (ns.length - 1 - (i + 1)) = ns.length - 1 by omega] at this
    omega)] at h2
  cases h2
theorem stopAt_good (opv : Nat → Int × Int) (last : Int) : ∀ (k f i : Nat), k ≤ i → i < stopAt opv last k f → goodAt opv last i
  | k, 0, i, h1, h2 => by unfold stopAt at h2; omega
  | k, f + 1, i, h1, h2 => by
    unfold stopAt at h2
    by_cases hg : goodAt opv last k
    · rw [if_pos hg] at h2
      by_cases hk : k = i
      · subst hk; exact hg
      · exact stopAt_good opv last (k + 1) f i (by omega) h2
    · rw [if_neg hg] at h2; omega
theorem posOut_asc {opv : Nat → Int × Int} {last : Int} (hm : ∀ k, (opv (k + 1)).2 = 0 → (opv k).1 ≤ (opv (k + 1)).1) (i : Nat) (hi : i + 1 < (posOut opv last).1.length) : (posOut opv last).1.getD i 0 ≤ (posOut opv last).1.getD (i + 1) 0 := by
  by_cases h : stopAt opv last 0 2001 = 2001
  · exfalso
    unfold posOut at hi
    rw [if_pos h] at hi
    simp at hi
  · have e : (posOut opv last).1 = (List.range (stopAt opv last 0 2001)).map (fun k => (opv k).1) := by
      unfold posOut; rw [if_neg h]
    rw [e] at hi ⊢
    have hi2 : i + 1 < stopAt opv last 0 2001 := by simpa using hi
    have hg := stopAt_good opv last 0 2001 (i + 1) (by omega) hi2
    have e1 : ∀ j, j < stopAt opv last 0 2001 → ((List.range (stopAt opv last 0 2001)).map (fun k => (opv k).1)).getD j 0 = (opv j).1 := fun j hj => by
      simp [List.getD_eq_getElem?_getD, List.getElem?_range hj]
    rw [e1 i (by omega), e1 (i + 1) hi2]
    exact hm i hg.1
/-! ### outputs lie between their samples -/
def lastN (n : Nat) (p : Int) : Nat := clmp n (p / 64)
theorem out1_between {xs : List Int} {p : Int} (hp : 0 ≤ p) (hx : ∀ x ∈ xs, -32767 ≤ x ∧ x ≤ 32767) {a b lo hi : Int} (ha : xs.getD (clmp xs.length (p / 64)) 0 = a) (hb : xs.getD (clmp xs.length (p / 64 + 1)) 0 = b)
    (hlo : lo = if 0 < p % 64 then min a b else a) (hhi : hi = if 0 < p % 64 then max a b else a) : lo ≤ outF 1 xs p ∧ outF 1 xs p ≤ hi := by
  have ba := getD_bd (xs := xs) (A := 32767) (by omega) hx (clmp xs.length (p / 64))
  have bb := getD_bd (xs := xs) (A := 32767) (by omega) hx (clmp xs.length (p / 64 + 1))
  rw [ha] at ba
  rw [hb] at bb
  have e : vnum1 xs p = (64 - p % 64) * a + (p % 64) * b := by
    unfold vnum1
    have e0 : clmp xs.length (p / 64 + ((0 : Nat) : Int)) = clmp xs.length (p / 64) := by rw [show p / 64 + ((0 : Nat) : Int) = p / 64 by omega]
    have e1 : clmp xs.length (p / 64 + ((1 : Nat) : Int)) = clmp xs.length (p / 64 + 1) := rfl
    simp only [vsum, e0, e1, wts1, ha, hb]
    simp
  unfold outF
  rw [if_pos rfl]
  unfold outV
  rw [e]
  generalize hf : p % 64 = f at *
  have hfb : 0 ≤ f ∧ f < 64 := by omega
  by_cases h0 : 0 < f
  · rw [if_pos h0] at hlo hhi
    have h1 : (64 - f) * lo ≤ (64 - f) * a := Int.mul_le_mul_of_nonneg_left (by omega) (by omega)
    have h2 : f * lo ≤ f * b := Int.mul_le_mul_of_nonneg_left (by omega) (by omega)
    have h3 : (64 - f) * a ≤ (64 - f) * hi := Int.mul_le_mul_of_nonneg_left (by omega) (by omega)
    have h4 : f * b ≤ f * hi := Int.mul_le_mul_of_nonneg_left (by omega) (by omega)
    have e3 : (64 - f) * lo + f * lo = 64 * lo := by rw [← Int.add_mul]; congr 1; omega
    have e4 : (64 - f) * hi + f * hi = 64 * hi := by rw [← Int.add_mul]; congr 1; omega
    generalize (64 - f) * a = u at *
    generalize f * b = v at *
    omega
  · rw [if_neg h0] at hlo hhi
    obtain rfl : f = 0 := by omega
    simp only [Int.sub_zero, Int.zero_mul, Int.add_zero]
    omega
def sumAbs3 (f : Int) : Int := absF ((wts3 f).getD 0 0) + absF ((wts3 f).getD 1 0) + absF ((wts3 f).getD 2 0) + absF ((wts3 f).getD 3 0)
theorem sumAbs3_all : ∀ f : Fin 64, sumAbs3 (f.val : Int) ≤ 1966080 := by decide +kernel
theorem sumAbs3_le {f : Int} (h : 0 ≤ f ∧ f ≤ 63) : sumAbs3 f ≤ 1966080 := by
  have := sumAbs3_all ⟨f.toNat, by omega⟩
  simpa [show ((f.toNat : Nat) : Int) = f by omega] using this
theorem absMul {w x M : Int} (h : -M ≤ x ∧ x ≤ M) : -(absF w * M) ≤ w * x ∧ w * x ≤ absF w * M := by
  have hM : 0 ≤ M := by omega
  unfold absF
  split
  · have h1 : -w * -M ≤ -w * x := Int.mul_le_mul_of_nonneg_left (by omega) (by omega)
    have h2 : -w * x ≤ -w * M := Int.mul_le_mul_of_nonneg_left (by omega) (by omega)
    simp only [Int.neg_mul, Int.mul_neg] at h1 h2 ⊢
    omega
  · have h1 : w * -M ≤ w * x := Int.mul_le_mul_of_nonneg_left (by omega) (by omega)
    have h2 : w * x ≤ w * M := Int.mul_le_mul_of_nonneg_left (by omega) (by omega)
    simp only [Int.mul_neg] at h1
    omega
theorem out3_bd {xs : List Int} {p M : Int} (hp : 0 ≤ p) (hM : ∀ j : Nat, j < 4 → -M ≤ xs.getD (clmp xs.length (p / 64 - 1 + (j : Int))) 0 ∧ xs.getD (clmp xs.length (p / 64 - 1 + (j : Int))) 0 ≤ M) : 4 * absF (outF 3 xs p) ≤ 5 * M + 4 := by
  have hs := sumAbs3_le (f := p % 64) (by omega)
  have m0 := absMul (w := (wts3 (p % 64)).getD 0 0) (hM 0 (by omega))
  have m1 := absMul (w := (wts3 (p % 64)).getD 1 0) (hM 1 (by omega))
  have m2 := absMul (w := (wts3 (p % 64)).getD 2 0) (hM 2 (by omega))
  have m3 := absMul (w := (wts3 (p % 64)).getD 3 0) (hM 3 (by omega))
  have hM0 : 0 ≤ M := by have := hM 0 (by omega); omega
  have e : vnum3 xs p = (wts3 (p % 64)).getD 0 0 * xs.getD (clmp xs.length (p / 64 - 1 + ((0 : Nat) : Int))) 0 + (wts3 (p % 64)).getD 1 0 * xs.getD (clmp xs.length (p / 64 - 1 + ((1 : Nat) : Int))) 0 + (wts3 (p % 64)).getD 2 0 * xs.getD (clmp xs.length (p / 64 - 1 + ((2 : Nat) : Int))) 0 + (wts3 (p % 64)).getD 3 0 * xs.getD (clmp xs.length (p / 64 - 1 + ((3 : Nat) : Int))) 0 := by
    unfold vnum3
    simp only [vsum]
    omega
  have hsm : sumAbs3 (p % 64) * M ≤ 1966080 * M := Int.mul_le_mul_of_nonneg_right hs hM0
  have hse : sumAbs3 (p % 64) * M = absF ((wts3 (p % 64)).getD 0 0) * M + absF ((wts3 (p % 64)).getD 1 0) * M + absF ((wts3 (p % 64)).getD 2 0) * M + absF ((wts3 (p % 64)).getD 3 0) * M := by
    unfold sumAbs3
    rw [Int.add_mul, Int.add_mul, Int.add_mul]
  have hv : -(1966080 * M) ≤ vnum3 xs p ∧ vnum3 xs p ≤ 1966080 * M := by
    rw [e]
    generalize absF ((wts3 (p % 64)).getD 0 0) * M = q0 at *
    generalize absF ((wts3 (p % 64)).getD 1 0) * M = q1 at *
    generalize absF ((wts3 (p % 64)).getD 2 0) * M = q2 at *
    generalize absF ((wts3 (p % 64)).getD 3 0) * M = q3 at *
    omega
  unfold outF
  rw [if_neg (by decide)]
  unfold outV absF
  generalize vnum3 xs p = v at *
  split <;> omega

end Go.Proofs.Ytepcciodhppbnaa

