import Derived.Test.YtjjflbnopphciaaGreatDoorP7
import Derived.Test.YtjjflbnopphciaaGreatDoorXE
import Derived.Deep.Slices
import Derived.Test.YtjjflbnopphciaaGreatDoorXC
import Derived.Test.YtjjflbnopphciaaGreatDoorH2
namespace Go.Proofs.YtjjflbnopphciaaGreatDoor

def firstE (f : Nat → Int) : Nat → Nat → Int
  | _, 0 => 0
  | k, m + 1 => if f k = 0 then firstE f (k + 1) m else f k
theorem firstE_zero {f : Nat → Int} : ∀ {m k : Nat}, (∀ i, k ≤ i → i < k + m → f i = 0) → firstE f k m = 0
  | 0, _, _ => rfl
  | m + 1, k, h => by
    unfold firstE
    rw [if_pos (h k (Nat.le_refl _) (by omega))]
    exact firstE_zero fun i h1 h2 => h i (by omega) (by omega)

/-- Velocities. -/
def velL (xs : List Int) : List Int := (List.range (xs.length - 1)).map fun i => xs.getD (i + 1) 0 - xs.getD i 0
def velTo (xs : List Int) (k : Nat) : List Int := (List.range k).map fun i => xs.getD (i + 1) 0 - xs.getD i 0
theorem velTo_succ (xs : List Int) (k : Nat) : velTo xs (k + 1) = velTo xs k ++ [xs.getD (k + 1) 0 - xs.getD k 0] := by simp [velTo, List.range_succ]
theorem velTo_length (xs : List Int) (k : Nat) : (velTo xs k).length = k := by simp [velTo]
theorem velL_length (xs : List Int) : (velL xs).length = xs.length - 1 := by simp [velL]
theorem velL_at (xs : List Int) (k : Nat) (h : k < xs.length - 1) : (velL xs).getD k 0 = xs.getD (k + 1) 0 - xs.getD k 0 := by
  rw [List.getD_eq_getElem?_getD, List.getElem?_eq_getElem (by rw [velL_length]; exact h)]
  simp [velL]

/-- Positions with velocities. -/
def posAt (s : Int) (v : List Int) : Nat → Int
  | 0 => s
  | k + 1 => posAt s v k + v.getD k 0
def posTo (s : Int) (v : List Int) (n : Nat) : List Int := (List.range n).map (posAt s v)
theorem posTo_succ (s : Int) (v : List Int) (n : Nat) : posTo s v (n + 1) = posTo s v n ++ [posAt s v n] := by simp [posTo, List.range_succ]
theorem posTo_length (s : Int) (v : List Int) (n : Nat) : (posTo s v n).length = n := by simp [posTo]
theorem posTo_at (s : Int) (v : List Int) (n k : Nat) (h : k < n) : (posTo s v n)[k]? = some (posAt s v k) := by simp [posTo, h]
def stepE (s : Int) (v : List Int) (k : Nat) : Int := if fromB (-2000000) 2000000 [v.getD k 0] = true then (if fromB (-1000000) 1000000 [posAt s v (k + 1)] = true then 0 else 23) else 2
def psE (s : Int) (v : List Int) : Int := if fromB (-1000000) 1000000 [s] = true then (if v.length < 200 then firstE (stepE s v) 0 v.length else 8) else 2
def psL (s : Int) (v : List Int) : List Int := if psE s v = 0 then posTo s v (v.length + 1) else []
theorem psL_err {s : Int} {v : List Int} (h : psE s v ≠ 0) : psL s v = [] := if_neg h

/-- Jumps. -/
def jmpB (xs : List Int) (limit : Int) (i : Nat) : Bool := !fromB (-limit) limit [xs.getD i 0 - xs.getD (i - 1) 0]
def jmpTo (xs : List Int) (limit : Int) : Nat → List Int
  | 0 => []
  | k + 1 => if k ≠ 0 ∧ jmpB xs limit k = true then jmpTo xs limit k ++ [(k : Int)] else jmpTo xs limit k
def limE (n : Int) : Int := if fromB 0 2000000 [n] = true then 0 else 2
def jmpE (xs : List Int) (limit : Int) : Int := if posE xs = 0 then limE limit else posE xs
def jmpL (xs : List Int) (limit : Int) : List Int := if jmpE xs limit = 0 then jmpTo xs limit xs.length else []
theorem jmpTo_length (xs : List Int) (limit : Int) : ∀ k, (jmpTo xs limit k).length ≤ k
  | 0 => Nat.le_refl _
  | k + 1 => by
    have := jmpTo_length xs limit k
    unfold jmpTo
    split
    · rw [List.length_append]; simp; omega
    · omega

/-- Velocities and positions reverse each other. -/
theorem posAt_vel (xs : List Int) : ∀ k, k < xs.length → posAt (xs.getD 0 0) (velL xs) k = xs.getD k 0
  | 0, _ => rfl
  | k + 1, h => by
    have ih := posAt_vel xs k (by omega)
    show posAt _ _ k + (velL xs).getD k 0 = _
    rw [ih, velL_at xs k (by omega)]
    omega
theorem psE_vel {xs : List Int} (h : posE xs = 0) (hn : 0 < xs.length) : psE (xs.getD 0 0) (velL xs) = 0 ∧ psL (xs.getD 0 0) (velL xs) = xs := by
  obtain ⟨hl, hs⟩ := pos_ok h
  have e : psE (xs.getD 0 0) (velL xs) = 0 := by
    unfold psE
    rw [if_pos (by rw [fromB_one]; exact hs.at_ 0), if_pos (by rw [velL_length]; omega)]
    refine firstE_zero fun i _ hi => ?_
    rw [velL_length] at hi
    unfold stepE
    have h1 := hs.at_ i
    have h2 := hs.at_ (i + 1)
    rw [velL_at xs i (by omega), posAt_vel xs (i + 1) (by omega), if_pos (by rw [fromB_one]; omega), if_pos (by rw [fromB_one]; exact h2)]
  refine ⟨e, ?_⟩
  unfold psL
  rw [if_pos e]
  apply List.ext_getElem
  · rw [posTo_length, velL_length]; omega
  · intro i h1 h2
    have h3 := posTo_at (xs.getD 0 0) (velL xs) ((velL xs).length + 1) i (by rw [posTo_length] at h1; exact h1)
    rw [List.getElem?_eq_getElem h1] at h3
    have h4 := posAt_vel xs i h2
    injection h3 with h3
    rw [h3, h4, List.getD_eq_getElem?_getD, List.getElem?_eq_getElem h2]
    rfl

end Go.Proofs.YtjjflbnopphciaaGreatDoor

namespace Go.Proofs.YtjjflbnopphciaaGreatDoor
open Go.RowKit

theorem within_any (n lo hi : Int) (w : World) :
    Calls Tryz.prog 15 #[.int .i64 n, .int .i64 lo, .int .i64 hi] w fun e w' => e = .returned (.bool (fromB lo hi [n])) ∧ w = w' := by
  by_cases h1 : lo ≤ n
  · go_enter Tryz.func15, Tryz.ntmps15
    go_wp2
    go_ret
    exact ⟨by simp [fromB, h1], rfl⟩
  · go_enter Tryz.func15, Tryz.ntmps15
    go_wp2
    go_ret
    exact ⟨by simp [fromB]; omega, rfl⟩

theorem rd_ownN {w : World} {base : Nat} {v : Value} {n : Nat} {xs : List Int} (h : w.ownsRow base 3 1 v n (xs.map (Value.int .i64))) :
    ∃ A c, v = .slice A n c ∧ n ≤ c ∧ RdI w A n xs ∧ (A = none → n = 0 ∧ c = 0) := by
  have h2 := h.2
  obtain ⟨A, c, rfl, hnc, hr⟩ := rd_of_own h
  refine ⟨A, c, rfl, hnc, hr, ?_⟩
  rintro rfl
  rcases h2 with ⟨e, h0⟩ | ⟨g, cap, cur, e, _⟩
  · injection e with _ e1 e2; exact ⟨e1, e2⟩
  · injection e with e; cases e

theorem copyInts_any (A : Option Addr) (n c : Nat) (l : List Int) (w : World) (hA : A = none → n = 0 ∧ c = 0) (hr : RdI w A n l) (hn : n ≤ 1000000) :
    Calls Tryz.prog 8 #[.slice A n c] w (OwnS w l) := by
  have ho : Hid ((w.alloc (.cells #[] 3)).ownsRow w.heap.size 3 1 (.slice (some ⟨w.heap.size, 0, none⟩) 0 0) 0 ([] : List Value)) := World.ownsRow_lit w #[] 0 (Nat.le_refl _) (by unfold maxLen; omega) rfl
  obtain ⟨i0, hi, hz0, hz1, hz2⟩ := info_parts intInfo'
  cases A with
  | none =>
    obtain ⟨rfl, rfl⟩ := hA rfl
    have hl : l = [] := List.eq_nil_of_length_eq_zero hr.1
    subst hl
    clear hA hr
    go_enter Tryz.func8, Tryz.ntmps8
    go_wp2_with (at_builtin; refine wpList_append_own_none rfl (.tmp 3) (.tmp 4) 22 rfl w.heap.size 3 i0 1 Tryz.underlying22 hi _ _ _ rfl ho.out rfl ?_)
    go_ret
    exact ⟨⟨_, rfl, ho.out⟩, (Below.refl _ _).alloc (Nat.le_refl _) _⟩
  | some ad =>
    have HR := Lib.hid hr; clear hr hA
    have hlen : Hid ((l.map (Value.int .i64)).length = n * 1) := by show List.length _ = _; rw [List.length_map]; have := HR.out.1; omega
    have hsrc : Hid (∀ j u, (l.map (Value.int .i64))[j]? = some u → (w.alloc (.cells #[] 3)).cell? (ad.add j) = some u) := by
      intro j u hu
      have hj : j < l.length := by
        have := (List.getElem?_eq_some_iff.1 hu).1
        simpa using this
      have hl := HR.out.1
      obtain ⟨ad', ha, hlt, hc⟩ := HR.out.2 (by omega)
      obtain rfl := Option.some.inj ha
      rw [World.cell?_alloc_lt w _ _ (by rw [addBlock]; exact hlt), hc j (by omega)]
      rw [List.getElem?_map, List.getElem?_eq_getElem hj] at hu
      simp at hu
      rw [← hu]
      simp [List.getD_eq_getElem?_getD, List.getElem?_eq_getElem hj]
    have hone : Hid (∀ u ∈ l.map (Value.int .i64), u.oneCell' = true) := by
      intro u hu
      obtain ⟨x, _, rfl⟩ := List.mem_map.1 hu
      rfl
    obtain ⟨news, hnews⟩ : ∃ news, l.map (Value.int .i64) = news := ⟨_, rfl⟩
    rw [hnews] at hlen hsrc hone
    have HNW := Lib.hid hnews
    clear hnews
    go_enter Tryz.func8, Tryz.ntmps8
    go_wp2_with (at_builtin; refine wpList_append_own _ rfl (.tmp 3) (.tmp 4) 22 rfl w.heap.size 3 i0 _ 1 8 Tryz.underlying22 hi hz0 hz1 hz2 rfl (by decide) _ _ _ rfl ho.out ad n c news rfl hlen.out hsrc.out hone.out (by unfold maxLen; omega) (by omega) (by simp) ?_)
    intro v w2 ho2 hg2 _
    have b2 : Below w.heap.size w w2 := ((Below.refl _ _).alloc (Nat.le_refl _) _).grown hg2 (by simp) (fun g hg => (ho.out.lt g hg).1)
    have o2 := Lib.hid ho2
    have B2 := Lib.hid b2
    clear ho2 hg2 b2
    go_wp2
    go_ret
    refine ⟨⟨_, rfl, ?_⟩, B2.out⟩
    have := o2.out
    rw [HNW.out, HR.out.1]
    simpa using this

set_option maxHeartbeats 1000000 in
theorem refPosErr_any (A : Option Addr) (n c : Nat) (xs : List Int) (w : World) (hr : RdI w A n xs) (hn : n ≤ 9223372036854775806) :
    Calls Tryz.prog 13 #[.slice A n c] w fun e w' => e = .returned (.int .i64 (posE xs)) ∧ w = w' := by
  have HR := Lib.hid hr; clear hr
  have HE : Hid (posE xs = if 200 < n then 8 else if fromB (-1000000) 1000000 xs = true then 0 else 2) := by show _ = _; unfold posE; rw [HR.out.1]
  by_cases h1 : 200 < n
  · have h1I : (200 : Int) < (n : Int) := by omega
    go_enter Tryz.func13, Tryz.ntmps13
    go_wp2
    go_ret
    exact ⟨by rw [HE.out, if_pos h1]; rfl, rfl⟩
  · have h1I : ¬ (200 : Int) < (n : Int) := by omega
    have HE2 : Hid (posE xs = if fromB (-1000000) 1000000 xs = true then 0 else 2) := by show _ = _; rw [HE.out, if_neg h1]
    clear h1 HE
    go_enter Tryz.func13, Tryz.ntmps13
    go_wp2
    go_loop [3] (fun i => ∃ k : Nat, k ≤ n ∧ i = .int .i64 k ∧ Hid (fromB (-1000000) 1000000 xs = fromB (-1000000) 1000000 (xs.drop k))) (fun i => n - (intOf i).toNat)
    case atStart => exact ⟨0, Nat.zero_le _, rfl, rfl⟩
    case round =>
      obtain ⟨k, hk, rfl, HF⟩ := hrel
      by_cases hlt : k < n
      · obtain ⟨ad, ha, _, hc⟩ := HR.out.2 (by omega)
        have hck := hc k hlt
        clear hc
        subst ha
        obtain ⟨x, hx⟩ : ∃ x, xs.getD k 0 = x := ⟨_, rfl⟩
        have hs := fromB_step (-1000000) 1000000 xs k (by have := HR.out.1; omega)
        rw [hx] at hck hs
        have hs2 : fromB (-1000000) 1000000 (xs.drop k) = (fromB (-1000000) 1000000 [x] && fromB (-1000000) 1000000 (xs.drop (k + 1))) := by rw [hs]; simp [fromB]
        obtain ⟨t, ht⟩ : ∃ t, fromB (-1000000) 1000000 [x] = t := ⟨_, rfl⟩
        rw [ht] at hs2
        have C := Lib.hid (within_any x (-1000000) 1000000 w)
        rw [ht] at C
        have HS := Lib.hid hs2; clear hs hs2 hx ht
        have hkI : (k : Int) < (n : Int) := by omega
        cases t
        · go_wp2_with (go_at_call 15; refine C.out.mono ?_; rintro e w' ⟨rfl, rfl⟩)
          go_ret
          exact ⟨by rw [HE2.out, HF.out, HS.out]; rfl, rfl⟩
        · go_wp2_with (go_at_call 15; refine C.out.mono ?_; rintro e w' ⟨rfl, rfl⟩)
          go_round
          case rel => exact ⟨k + 1, by omega, by go_num, by show _ = _; rw [HF.out, HS.out]; rfl⟩
          case measure => simp [intOf]; omega
      · obtain rfl : n = k := by omega
        go_wp2
        go_ret
        exact ⟨by rw [HE2.out, HF.out, List.drop_eq_nil_of_le (by have := HR.out.1; omega)]; rfl, rfl⟩

/-- The error of positions of which there is at least one. -/
def turnErr (xs : List Int) : Int := if posE xs = 0 then (if xs.length = 0 then 10 else 0) else posE xs
theorem checkTurn_any (A : Option Addr) (n c : Nat) (xs : List Int) (w : World) (hr : RdI w A n xs) (hn : n ≤ 9223372036854775806) :
    Calls Tryz.prog 59 #[.slice A n c] w fun e w' => e = .returned (.int .i64 (turnErr xs)) ∧ w = w' := by
  have C := Lib.hid (checkPositions_any A n c xs w hr hn)
  have HE : Hid (turnErr xs = if posE xs = 0 then (if n = 0 then 10 else 0) else posE xs) := by show _ = _; unfold turnErr; rw [hr.1]
  obtain ⟨E, hE⟩ : ∃ E, posE xs = E := ⟨_, rfl⟩
  have HE2 : Hid (turnErr xs = if E = 0 then (if n = 0 then 10 else 0) else E) := by show _ = _; rw [HE.out, hE]
  rw [hE] at C
  clear hE hr HE
  by_cases h0 : E = 0
  · subst h0
    by_cases hn0 : n = 0
    · subst hn0
      go_enter Tryz.func59, Tryz.ntmps59
      go_wp2_with (go_at_call 39; refine C.out.mono ?_; rintro e w' ⟨rfl, rfl⟩)
      go_ret
      exact ⟨by rw [HE2.out]; rfl, rfl⟩
    · have h1 : ((n : Int) == 0) = false := by rw [beq_eq_false_iff_ne]; omega
      go_enter Tryz.func59, Tryz.ntmps59
      go_wp2_with (go_at_call 39; refine C.out.mono ?_; rintro e w' ⟨rfl, rfl⟩)
      go_ret
      exact ⟨by rw [HE2.out]; simp [hn0], rfl⟩
  · have h1 : (E == 0) = false := by rw [beq_eq_false_iff_ne]; exact h0
    go_enter Tryz.func59, Tryz.ntmps59
    go_wp2_with (go_at_call 39; refine C.out.mono ?_; rintro e w' ⟨rfl, rfl⟩)
    go_ret
    exact ⟨by first | (rw [HE2.out, if_neg h0]; rfl) | (rw [HE2.out]; simp [h0]), rfl⟩

theorem size_any (n : Int) (w : World) (h : -4611686018427387904 ≤ n ∧ n ≤ 4611686018427387904) :
    Calls Tryz.prog 71 #[.int .i64 n] w fun e w' => e = .returned (.int .i64 (if n < 0 then -n else n)) ∧ w = w' := by
  have hw : IntKind.i64.wrap (-n) = -n := IntWalk.i64_in _ (by omega)
  by_cases h0 : n < 0
  · have h1 : n < -n := by omega
    go_enter Tryz.func71, Tryz.ntmps71
    go_wp2
    go_ret
    exact ⟨by first | rfl | (rw [if_pos h0]; rfl), rfl⟩
  · have h1 : ¬ n < -n := by omega
    go_enter Tryz.func71, Tryz.ntmps71
    go_wp2
    go_ret
    exact ⟨by first | rfl | (rw [if_neg h0]; rfl), rfl⟩

theorem long_any (A : Option Addr) (n c : Nat) (w : World) :
    Calls Tryz.prog 6 #[.slice A n c] w fun e w' => e = .returned (.bool (decide (n ≤ 203))) ∧ w = w' := by
  by_cases h0 : n ≤ 203
  · have h1 : (n : Int) ≤ 203 := by omega
    go_enter Tryz.func6, Tryz.ntmps6
    go_wp2
    go_ret
    exact ⟨by first | rfl | (rw [decide_eq_true h0]; rfl), rfl⟩
  · have h1 : ¬ (n : Int) ≤ 203 := by omega
    go_enter Tryz.func6, Tryz.ntmps6
    go_wp2
    go_ret
    exact ⟨by first | rfl | (rw [decide_eq_false h0]; rfl), rfl⟩

end Go.Proofs.YtjjflbnopphciaaGreatDoor

namespace Go.Proofs.YtjjflbnopphciaaGreatDoor
open Go.RowKit

/-- The slice '.slice A n c' reads as pairs. -/
def RdP (w : World) (A : Option Addr) (n : Nat) (ps : List (Int × Int)) : Prop :=
  ps.length = n ∧ (0 < n → ∃ ad, A = some ad ∧ ad.block < w.heap.size ∧ ∀ j, j < n → w.cell? (ad.add (j * 2)) = some (.int .i64 (ps.getD j (0, 0)).1) ∧ w.cell? ((ad.add (j * 2)).add 1) = some (.int .i64 (ps.getD j (0, 0)).2))
theorem RdP.below {w w' : World} {A : Option Addr} {n : Nat} {ps : List (Int × Int)} (h : RdP w A n ps) (hb : Below w.heap.size w w') : RdP w' A n ps := by
  refine ⟨h.1, fun hn => ?_⟩
  obtain ⟨ad, e, hlt, hc⟩ := h.2 hn
  exact ⟨ad, e, Nat.lt_of_lt_of_le hlt hb.size, fun j hj => ⟨(hb.cell (by rw [addBlock]; exact hlt)).trans (hc j hj).1, (hb.cell (by rw [addBlock, addBlock]; exact hlt)).trans (hc j hj).2⟩⟩

theorem pairCells_at : ∀ (ps : List (Int × Int)) (j : Nat), j < ps.length → (pairCells ps)[j * 2]? = some (.int .i64 (ps.getD j (0, 0)).1) ∧ (pairCells ps)[j * 2 + 1]? = some (.int .i64 (ps.getD j (0, 0)).2)
  | [], j, h => absurd h (by simp)
  | p :: ps, 0, _ => ⟨rfl, rfl⟩
  | p :: ps, j + 1, h => by
    have ih := pairCells_at ps j (by simpa using h)
    have e : pairCells (p :: ps) = .int .i64 p.1 :: .int .i64 p.2 :: pairCells ps := rfl
    rw [e, show (j + 1) * 2 = j * 2 + 1 + 1 by omega]
    simpa using ih
theorem pairCells_length (ps : List (Int × Int)) : (pairCells ps).length = ps.length * 2 := by
  induction ps with
  | nil => rfl
  | cons p ps ih =>
    have e : pairCells (p :: ps) = .int .i64 p.1 :: .int .i64 p.2 :: pairCells ps := rfl
    rw [e, List.length_cons, List.length_cons, List.length_cons, ih]; omega
theorem pairCells_one (ps : List (Int × Int)) : ∀ u ∈ pairCells ps, u.oneCell' = true := by
  intro u hu
  simp only [pairCells, List.mem_flatMap] at hu
  obtain ⟨p, _, hp⟩ := hu
  simp at hp
  rcases hp with rfl | rfl <;> rfl
theorem rdR_of_own {w : World} {base g n cap : Nat} {t : TypeId} {ps : List (Int × Int)} (h : w.ownsRow base t 2 (.slice (some ⟨g, 0, none⟩) n cap) n (pairCells ps)) (hl : ps.length = n) : RdR w g n ps := by
  refine ⟨hl, fun _ => (h.lt g rfl).2, fun j hj => ?_⟩
  obtain ⟨h1, h2⟩ := pairCells_at ps j (by omega)
  exact ⟨(h.cellAt (j * 2) (by omega)).trans h1, (h.cellAt (j * 2 + 1) (by omega)).trans h2⟩

def CopyP (w : World) (n : Nat) (ps : List (Int × Int)) (e : Ending) (w' : World) : Prop := (∃ g c, e = .returned (.slice (some ⟨g, 0, none⟩) n c) ∧ RdR w' g n ps) ∧ Below w.heap.size w w'
theorem wlsInfo : (Tryz.prog.info? 83).map (fun i => (i.zero, i.size, i.bytes)) = some (some (.agg #[.int .i64 0, .int .i64 0]), 2, 16) := by kernel_rfl

end Go.Proofs.YtjjflbnopphciaaGreatDoor

namespace Go.Proofs.YtjjflbnopphciaaGreatDoor

/-- The first error of k of them. -/
def firstF (f : Nat → Int) : Nat → Int
  | 0 => 0
  | k + 1 => if firstF f k = 0 then f k else firstF f k
theorem firstF_zero (f : Nat → Int) : firstF f 0 = 0 := rfl
theorem firstF_step {f : Nat → Int} {k : Nat} (h : firstF f k = 0) : firstF f (k + 1) = f k := if_pos h
theorem firstF_keep {f : Nat → Int} {k : Nat} (h : firstF f k ≠ 0) : ∀ n, k ≤ n → firstF f n = firstF f k
  | 0, hk => by obtain rfl : k = 0 := by omega
                rfl
  | n + 1, hk => by
    by_cases e : k = n + 1
    · subst e; rfl
    · have ih := firstF_keep h n (by omega)
      show (if firstF f n = 0 then f n else firstF f n) = _
      rw [if_neg (by rw [ih]; exact h), ih]
theorem firstF_stop {f : Nat → Int} {k n : Nat} {x : Int} (h : firstF f k = 0) (hx : f k = x) (h0 : x ≠ 0) (hk : k < n) : firstF f n = x := by
  have e := (firstF_step h).trans hx
  rw [firstF_keep (k := k + 1) (by rw [e]; exact h0) n hk, e]
theorem firstF_ok {f : Nat → Int} : ∀ {n : Nat}, firstF f n = 0 → ∀ j, j < n → f j = 0
  | 0, _, j, hj => absurd hj (by omega)
  | n + 1, h, j, hj => by
    by_cases h0 : firstF f n = 0
    · rw [firstF_step h0] at h
      by_cases e : j = n
      · subst e; exact h
      · exact firstF_ok h0 j (by omega)
    · have := firstF_keep h0 (n + 1) (by omega)
      rw [h] at this; exact absurd this.symm h0

/-- What is wrong with a path at an index. -/
def pAt (m : Nat) (path : List Int) (i : Nat) : Int :=
  if 0 ≤ path.getD i 0 ∧ path.getD i 0 ≤ (m : Int) - 1 then (if i = 0 ∨ (-1 ≤ path.getD i 0 - path.getD (i - 1) 0 ∧ path.getD i 0 - path.getD (i - 1) 0 ≤ 1) then 0 else 9) else 6
def pathE (n m : Nat) (path : List Int) : Int := if path.length = n then firstF (pAt m path) n else 10
theorem pAt_in {m : Nat} {path : List Int} {i : Nat} (h : pAt m path i = 0) : 0 ≤ path.getD i 0 ∧ path.getD i 0 ≤ (m : Int) - 1 := by
  unfold pAt at h
  by_cases h0 : 0 ≤ path.getD i 0 ∧ path.getD i 0 ≤ (m : Int) - 1
  · exact h0
  · rw [if_neg h0] at h; omega
theorem pAt_out {m : Nat} {path : List Int} {i : Nat} (h : ¬ (0 ≤ path.getD i 0 ∧ path.getD i 0 ≤ (m : Int) - 1)) : pAt m path i = 6 := if_neg h
theorem pAt_first {m : Nat} {path : List Int} (h : 0 ≤ path.getD 0 0 ∧ path.getD 0 0 ≤ (m : Int) - 1) : pAt m path 0 = 0 := by
  unfold pAt; rw [if_pos h, if_pos (.inl rfl)]
theorem pAt_step {m : Nat} {path : List Int} {i : Nat} (h : 0 ≤ path.getD i 0 ∧ path.getD i 0 ≤ (m : Int) - 1) (hs : -1 ≤ path.getD i 0 - path.getD (i - 1) 0 ∧ path.getD i 0 - path.getD (i - 1) 0 ≤ 1) : pAt m path i = 0 := by
  unfold pAt; rw [if_pos h, if_pos (.inr hs)]
theorem pAt_jump {m : Nat} {path : List Int} {i : Nat} (h : 0 ≤ path.getD i 0 ∧ path.getD i 0 ≤ (m : Int) - 1) (h0 : i ≠ 0) (hs : ¬ (-1 ≤ path.getD i 0 - path.getD (i - 1) 0 ∧ path.getD i 0 - path.getD (i - 1) 0 ≤ 1)) : pAt m path i = 9 := by
  unfold pAt; rw [if_pos h, if_neg (by rintro (h1 | h1); exact h0 h1; exact hs h1)]
theorem path_in {n m : Nat} {path : List Int} (h : pathE n m path = 0) : path.length = n ∧ ∀ j, j < n → 0 ≤ path.getD j 0 ∧ path.getD j 0 ≤ (m : Int) - 1 := by
  unfold pathE at h
  by_cases h0 : path.length = n
  · rw [if_pos h0] at h
    exact ⟨h0, fun j hj => pAt_in (firstF_ok h j hj)⟩
  · rw [if_neg h0] at h; omega

/-- The value of a path at an index, and the cost of its beginning. -/
def valAt (rows : List (List Int)) (path : List Int) (i : Nat) : Int := (rows.getD i []).getD (path.getD i 0).toNat 0
def bendAt (b : Int) (path : List Int) (i : Nat) : Int := if i = 0 then 0 else if path.getD (i - 1) 0 = path.getD i 0 then 0 else b
def costF (rows : List (List Int)) (b : Int) (path : List Int) : Nat → Int
  | 0 => 0
  | k + 1 => costF rows b path k + valAt rows path k + bendAt b path k
theorem costF_bd {rows : List (List Int)} {b : Int} {path : List Int} (hb : 0 ≤ b ∧ b ≤ 1000) : ∀ {k : Nat}, (∀ j, j < k → 0 ≤ valAt rows path j ∧ valAt rows path j ≤ 255) → 0 ≤ costF rows b path k ∧ costF rows b path k ≤ 1255 * (k : Int)
  | 0, _ => ⟨Int.le_refl _, by simp [costF]⟩
  | k + 1, h => by
    have ih := costF_bd hb (k := k) (fun j hj => h j (by omega))
    have h1 := h k (by omega)
    have h2 : 0 ≤ bendAt b path k ∧ bendAt b path k ≤ 1000 := by
      unfold bendAt
      by_cases e : k = 0
      · rw [if_pos e]; omega
      · rw [if_neg e]; by_cases e2 : path.getD (k - 1) 0 = path.getD k 0
        · rw [if_pos e2]; omega
        · rw [if_neg e2]; exact hb
    show 0 ≤ costF rows b path k + valAt rows path k + bendAt b path k ∧ _ ≤ _
    have e : costF rows b path (k + 1) = costF rows b path k + valAt rows path k + bendAt b path k := rfl
    rw [e]
    omega

/-- The cracks of the beginning of a path. -/
def crF (rows : List (List Int)) (path : List Int) (limit : Int) : Nat → List (Int × Int)
  | 0 => []
  | k + 1 =>
    if valAt rows path k ≤ limit then crF rows path limit k
    else if 0 < (crF rows path limit k).length ∧ ((crF rows path limit k).getD ((crF rows path limit k).length - 1) (0, 0)).2 = (k : Int) - 1 then (crF rows path limit k).set ((crF rows path limit k).length - 1) (((crF rows path limit k).getD ((crF rows path limit k).length - 1) (0, 0)).1, (k : Int))
    else crF rows path limit k ++ [((k : Int), (k : Int))]
theorem crF_length (rows : List (List Int)) (path : List Int) (limit : Int) : ∀ k, (crF rows path limit k).length ≤ k
  | 0 => Nat.le_refl _
  | k + 1 => by
    have ih := crF_length rows path limit k
    unfold crF
    split
    · omega
    · split
      · simp; omega
      · simp; omega
theorem pairCells_set2 : ∀ (ps : List (Int × Int)) (j : Nat) (x : Int), j < ps.length → (pairCells ps).set (j * 2 + 1) (.int .i64 x) = pairCells (ps.set j ((ps.getD j (0, 0)).1, x))
  | [], j, _, h => absurd h (by simp)
  | p :: ps, 0, x, _ => rfl
  | p :: ps, j + 1, x, h => by
    have ih := pairCells_set2 ps j x (by simpa using h)
    have e : pairCells (p :: ps) = .int .i64 p.1 :: .int .i64 p.2 :: pairCells ps := rfl
    have e2 : pairCells (p :: ps.set j ((ps.getD j (0, 0)).1, x)) = .int .i64 p.1 :: .int .i64 p.2 :: pairCells (ps.set j ((ps.getD j (0, 0)).1, x)) := rfl
    rw [e, show (j + 1) * 2 + 1 = j * 2 + 1 + 1 + 1 by omega, List.set_cons_succ, List.set_cons_succ, ih]
    rw [List.set_cons_succ]
    exact e2.symm

end Go.Proofs.YtjjflbnopphciaaGreatDoor

namespace Go.Proofs.YtjjflbnopphciaaGreatDoor
open Go.RowKit

set_option maxRecDepth 100000 in
set_option maxHeartbeats 2000000 in
theorem checkPath_any (A : Option Addr) (n c m : Nat) (b : Int) (P : Option Addr) (k cp : Nat) (path : List Int) (w : World) (hr : RdI w P k path) (hk : k ≤ 1000000) (hn : n ≤ 1000000) (hm : m ≤ 1000000) :
    Calls Tryz.prog 83 #[.agg #[.slice A n c, .int .i64 b, .int .i64 m], .slice P k cp] w fun e w' => e = .returned (.int .i64 (pathE n m path)) ∧ Below w.heap.size w w' := by
  have HLN : Hid (path.length = k) := hr.1
  have hb0 : Below w.heap.size w (w.alloc (.cells #[.slice A n c, .int .i64 b, .int .i64 m] 104)) := (Below.refl _ w).alloc (Nat.le_refl _) _
  have q0 : (w.alloc (.cells #[.slice A n c, .int .i64 b, .int .i64 m] 104)).cell? ⟨w.heap.size, 2, none⟩ = some (.int .i64 m) := by simp [go_sem]
  have hz0 : w.heap.size < (w.alloc (.cells #[.slice A n c, .int .i64 b, .int .i64 m] 104)).heap.size := by simp
  have HR := Lib.hid (hr.below hb0)
  have HB0 := Lib.hid hb0
  have Q0 := Lib.hid q0
  have HZ0 := Lib.hid hz0
  clear hr hb0 q0 hz0
  by_cases hkn : k = n
  · subst hkn
    have HE : Hid (pathE k m path = firstF (pAt m path) k) := if_pos HLN.out
    have hne : ((k : Int) != (k : Int)) = false := bne_self_eq_false' _
    rw [HE.out]
    go_enter Tryz.func83, Tryz.ntmps83
    go_wp2
    obtain ⟨W0, hW0⟩ : ∃ W0, (w.alloc (.cells #[.slice A k c, .int .i64 b, .int .i64 m] 104)) = W0 := ⟨_, rfl⟩
    obtain ⟨g, hg⟩ : ∃ g, w.heap.size = g := ⟨_, rfl⟩
    rw [hW0] at HR HB0 Q0 HZ0 ⊢
    rw [hg] at Q0 HZ0 ⊢
    have HG := Lib.hid hg
    clear hW0 hne hg
    go_loopw [16] (fun i wr => ∃ j : Nat, j ≤ k ∧ i = .int .i64 j ∧ Hid (firstF (pAt m path) j = 0) ∧ Hid (Below W0.heap.size W0 wr)) (fun i _ => k - (intOf i).toNat)
    case atStart => exact ⟨0, Nat.zero_le _, rfl, rfl, Below.refl _ _⟩
    case round =>
      obtain ⟨j, hj, rfl, HF, HX⟩ := hrel
      by_cases hlt : j < k
      · have hjI : (j : Int) < (k : Int) := by omega
        have hj0 : (0 : Int) ≤ (j : Int) := by omega
        have q1 : wr.cell? ⟨g, 2, none⟩ = some (.int .i64 m) := (HX.out.cell (p := ⟨g, 2, none⟩) HZ0.out).trans Q0.out
        obtain ⟨ad, hP, hadb, hc⟩ := (HR.out.below HX.out).2 (by omega)
        subst hP
        have c1 := hc j hlt
        have HC := Lib.hid hc
        clear hc
        obtain ⟨x, hx⟩ : ∃ x, path.getD j 0 = x := ⟨_, rfl⟩
        rw [hx] at c1
        have HXE := Lib.hid hx
        have CA : Hid (∀ W g', W.cell? ⟨g', 0, none⟩ = some (.int .i64 x) → Calls Tryz.prog 45 #[.int .i64 0, .int .i64 ((m : Int) - 1), .slice (some ⟨g', 0, none⟩) 1 1] W fun e w' => e = .returned (.bool (fromB 0 ((m : Int) - 1) [x])) ∧ W = w') := fun W g' h => areFrom_any _ 1 1 [x] 0 ((m : Int) - 1) W (lit1 _ _ _ h) (by omega)
        clear hx
        by_cases hin : 0 ≤ x ∧ x ≤ (m : Int) - 1
        · rw [fromB_one.2 hin] at CA
          obtain ⟨hx0, hxm⟩ := hin
          by_cases h0 : j = 0
          · subst h0
            have HF2 : Hid (firstF (pAt m path) (0 + 1) = 0) := by
              show _ = _
              rw [firstF_step HF.out, pAt_first (by rw [HXE.out]; exact ⟨hx0, hxm⟩)]
            have hgd : decide ((0 : Int) < ((0 : Nat) : Int)) = false := rfl
            rw [addZ] at c1
            go_wp2_with (go_at_call 45; refine (CA.out _ _ (by simp [go_sem])).mono ?_; rintro e w' ⟨rfl, rfl⟩)
            go_roundw
            case rel => exact ⟨0 + 1, by omega, by go_num, HF2.out, HX.out.alloc HX.out.size _⟩
            case measure => simp [intOf]; omega
          · obtain ⟨q, hq⟩ : ∃ q, j = q + 1 := ⟨j - 1, by omega⟩
            have c2 := HC.out q (by omega)
            have hyb := pAt_in (firstF_ok HF.out q (by omega))
            obtain ⟨y, hy⟩ : ∃ y, path.getD q 0 = y := ⟨_, rfl⟩
            rw [hy] at c2 hyb
            have HYE : Hid (path.getD (j - 1) 0 = y) := by show _ = _; rw [show j - 1 = q by omega]; exact hy
            obtain ⟨hy0, hym⟩ := hyb
            have hz1 : IntKind.i64.wrap ((j : Int) - 1) = (q : Int) := by rw [show (j : Int) - 1 = (q : Int) by omega]; exact IntWalk.i64_in _ (by omega)
            have hz2 : (j : Int) - 1 = (q : Int) := by omega
            have hz3 : (0 : Int) ≤ (q : Int) := by omega
            have hz4 : (q : Int) < (k : Int) := by omega
            have hgd : decide ((0 : Int) < (j : Int)) = true := decide_eq_true (by omega)
            have hgp : (0 : Int) < (j : Int) := by omega
            have CM : Hid (∀ W g', W.cell? ⟨g', 0, none⟩ = some (.int .i64 (x - y)) → Calls Tryz.prog 60 #[.int .i64 1, .slice (some ⟨g', 0, none⟩) 1 1] W fun e w' => e = .returned (.bool (fromB (-1) 1 [x - y])) ∧ W = w') := fun W g' h => areAtMost_any _ 1 1 [x - y] 1 W (lit1 _ _ _ h) (by omega) (by omega)
            have c3 : (wr.alloc (.cells #[.int .i64 x] 3)).cell? (ad.add q) = some (.int .i64 y) := cellA _ c2
            clear hy hq
            by_cases hs : -1 ≤ x - y ∧ x - y ≤ 1
            · rw [fromB_one.2 hs] at CM
              have HF2 : Hid (firstF (pAt m path) (j + 1) = 0) := by
                show _ = _
                rw [firstF_step HF.out, pAt_step (by rw [HXE.out]; exact ⟨hx0, hxm⟩) (by rw [HXE.out, HYE.out]; exact hs)]
              clear hs
              go_wp2_with (first | (go_at_call 45; refine (CA.out _ _ (by simp [go_sem])).mono ?_; rintro e w' ⟨rfl, rfl⟩) | (go_at_call 60; refine (CM.out _ _ (by simp [go_sem])).mono ?_; rintro e w' ⟨rfl, rfl⟩))
              go_roundw
              case rel => exact ⟨j + 1, by omega, by go_num, HF2.out, (HX.out.alloc HX.out.size _).alloc (by simp; have := HX.out.size; omega) _⟩
              case measure => simp [intOf]; omega
            · rw [show fromB (-1) 1 [x - y] = false by rw [Bool.eq_false_iff]; intro e; exact hs (fromB_one.1 e)] at CM
              have HF2 : Hid (firstF (pAt m path) k = 9) := firstF_stop HF.out (pAt_jump (by rw [HXE.out]; exact ⟨hx0, hxm⟩) h0 (by rw [HXE.out, HYE.out]; exact hs)) (by decide) hlt
              clear hs
              go_wp2_with (first | (go_at_call 45; refine (CA.out _ _ (by simp [go_sem])).mono ?_; rintro e w' ⟨rfl, rfl⟩) | (go_at_call 60; refine (CM.out _ _ (by simp [go_sem])).mono ?_; rintro e w' ⟨rfl, rfl⟩))
              go_ret
              refine ⟨by rw [HF2.out]; rfl, ?_⟩
              exact HB0.out.trans (((HX.out.alloc HX.out.size _).alloc (by simp; have := HX.out.size; omega) _).mono HB0.out.size)
        · rw [show fromB 0 ((m : Int) - 1) [x] = false by rw [Bool.eq_false_iff]; intro e; exact hin (fromB_one.1 e)] at CA
          have HF2 : Hid (firstF (pAt m path) k = 6) := firstF_stop HF.out (pAt_out (by rw [HXE.out]; exact hin)) (by decide) hlt
          clear hin
          go_wp2_with (go_at_call 45; refine (CA.out _ _ (by simp [go_sem])).mono ?_; rintro e w' ⟨rfl, rfl⟩)
          go_ret
          refine ⟨by rw [HF2.out]; rfl, ?_⟩
          exact HB0.out.trans ((HX.out.alloc HX.out.size _).mono HB0.out.size)
      · obtain rfl : k = j := by omega
        go_wp2
        go_ret
        refine ⟨by rw [HF.out]; rfl, ?_⟩
        exact HB0.out.trans (HX.out.mono HB0.out.size)
  · have HE : Hid (pathE n m path = 10) := if_neg (by rw [HLN.out]; exact hkn)
    have hne : ((k : Int) != (n : Int)) = true := by rw [bne_iff_ne]; omega
    rw [HE.out]
    clear hkn HE
    go_enter Tryz.func83, Tryz.ntmps83
    go_wp2
    go_ret
    exact ⟨rfl, HB0.out⟩

end Go.Proofs.YtjjflbnopphciaaGreatDoor

namespace Go.Proofs.YtjjflbnopphciaaGreatDoor
open Go.RowKit

def cstE (rows : List (List Int)) (b : Int) (n : Nat) (path : List Int) : Int := if taskE rows b = 0 then pathE n (colsOf rows) path else taskE rows b

set_option maxRecDepth 100000 in
set_option maxHeartbeats 1000000 in
theorem checkedWith_err1 (A : Option Addr) (n c : Nat) (rows : List (List Int)) (b : Int) (P : Option Addr) (k cp : Nat) (w : World) (hr : RdG w A n rows) (hn : n ≤ 1000000) (hE : taskE rows b ≠ 0) :
    Calls Tryz.prog 55 #[.agg #[.slice A n c, .int .i64 b], .slice P k cp] w fun e w' => e = .returned (.tuple #[.agg #[.slice none 0 0, .int .i64 0, .int .i64 0], .int .i64 (taskE rows b)]) ∧ Below w.heap.size w w' := by
  have hb0 : Below w.heap.size w ((w.alloc (.cells #[.slice A n c, .int .i64 b] 55)).alloc (.cells #[.slice none 0 0, .int .i64 0, .int .i64 0] 104)) := ((Below.refl _ w).alloc (Nat.le_refl _) _).alloc (by simp) _
  have qb : Bk ((w.alloc (.cells #[.slice A n c, .int .i64 b] 55)).alloc (.cells #[.slice none 0 0, .int .i64 0, .int .i64 0] 104)) (w.heap.size + 1) 104 #[.slice none 0 0, .int .i64 0, .int .i64 0] := by
    have := Bk.new (w.alloc (.cells #[.slice A n c, .int .i64 b] 55)) 104 #[.slice none 0 0, .int .i64 0, .int .i64 0]
    simpa using this
  have HQ := Lib.hid qb
  have HB0 := Lib.hid hb0
  have CC := Lib.hid (checked_err A n c rows b _ (hr.below hb0) (by omega) hE)
  obtain ⟨E, hEe⟩ : ∃ E, taskE rows b = E := ⟨_, rfl⟩
  rw [hEe] at CC hE ⊢
  have h1 : (E != 0) = true := by simpa using hE
  have h2 : (E == 0) = false := by simpa using hE
  clear hr hb0 qb hEe hE
  go_enter Tryz.func55, Tryz.ntmps55
  go_wp2_with fail
  refine CC.out.mono ?_
  rintro e w1 ⟨rfl, hb1⟩
  have pb : Bk w1 (w.heap.size + 1) 104 #[.slice none 0 0, .int .i64 0, .int .i64 0] := HQ.out.later hb1
  have HB1 : Hid (Below w.heap.size w w1) := HB0.out.trans (hb1.mono HB0.out.size)
  have hz1 : w.heap.size + 2 ≤ w1.heap.size := by have := hb1.size; simp at this; omega
  have pb2 := pb.alloc (.cells #[.slice none 0 0, .int .i64 0, .int .i64 0] 104)
  have t0 : (w1.alloc (.cells #[.slice none 0 0, .int .i64 0, .int .i64 0] 104)).cell? ⟨w.heap.size + 1, 0, none⟩ = some (.slice none 0 0) := by rw [pb2.cell]; rfl
  have f0 := pb2.frozen 0
  have t1 : (w1.alloc (.cells #[.slice none 0 0, .int .i64 0, .int .i64 0] 104)).cell? ⟨w.heap.size + 1, 1, none⟩ = some (.int .i64 0) := by rw [pb2.cell]; rfl
  have f1 := pb2.frozen 1
  have t2 : (w1.alloc (.cells #[.slice none 0 0, .int .i64 0, .int .i64 0] 104)).cell? ⟨w.heap.size + 1, 2, none⟩ = some (.int .i64 0) := by rw [pb2.cell]; rfl
  have f2 := pb2.frozen 2
  have HPB := Lib.hid pb2
  clear pb pb2 hb1 CC
  go_wp2
  have HF := Lib.hid (((HPB.out.set_ 0 (.slice none 0 0)).set_ 1 (.int .i64 0)).set_ 2 (.int .i64 0))
  refine bodyPost_ret (v := .tuple #[.agg #[.slice none 0 0, .int .i64 0, .int .i64 0], .int .i64 E]) ?_ rfl ⟨rfl, (((HB1.out.alloc (by omega) _).setCell (p := ⟨w.heap.size + 1, 0, none⟩) (by dsimp only; omega) _).setCell (p := ⟨w.heap.size + 1, 1, none⟩) (by dsimp only; omega) _).setCell (p := ⟨w.heap.size + 1, 2, none⟩) (by dsimp only; omega) _⟩
  exact results_cell_tmp (fn := Tryz.f55) rfl _ _ (w.heap.size + 1) 104 _ (0, 0) _ rfl HF.out Tryz.underlying104 rfl taskSize

set_option maxRecDepth 100000 in
set_option maxHeartbeats 1000000 in
theorem checkedWith_err2 (ad : Addr) (n c m c' : Nat) (B : Option Addr) (rows : List (List Int)) (b : Int) (P : Option Addr) (k cp : Nat) (path : List Int) (w : World) (hr : RdG w (some ad) n rows) (hn : 0 < n ∧ n ≤ 1000000) (hm : m ≤ 1000000) (hk : k ≤ 1000000) (hadb : ad.block < w.heap.size) (hck : w.cell? ad = some (.slice B m c')) (hp : RdI w P k path) (hE : taskE rows b = 0) (hpe : pathE n m path ≠ 0) :
    Calls Tryz.prog 55 #[.agg #[.slice (some ad) n c, .int .i64 b], .slice P k cp] w fun e w' => e = .returned (.tuple #[.agg #[.slice none 0 0, .int .i64 0, .int .i64 0], .int .i64 (pathE n m path)]) ∧ Below w.heap.size w w' := by
  have hb0 : Below w.heap.size w ((w.alloc (.cells #[.slice (some ad) n c, .int .i64 b] 55)).alloc (.cells #[.slice none 0 0, .int .i64 0, .int .i64 0] 104)) := ((Below.refl _ w).alloc (Nat.le_refl _) _).alloc (by simp) _
  have qb : Bk ((w.alloc (.cells #[.slice (some ad) n c, .int .i64 b] 55)).alloc (.cells #[.slice none 0 0, .int .i64 0, .int .i64 0] 104)) (w.heap.size + 1) 104 #[.slice none 0 0, .int .i64 0, .int .i64 0] := by
    have := Bk.new (w.alloc (.cells #[.slice (some ad) n c, .int .i64 b] 55)) 104 #[.slice none 0 0, .int .i64 0, .int .i64 0]
    simpa using this
  have HQ := Lib.hid qb
  have HB0 := Lib.hid hb0
  have CC := Lib.hid (checked_ok ad n c m c' B rows b _ (hr.below hb0) (by omega) (Nat.lt_of_lt_of_le hadb hb0.size) ((hb0.cell hadb).trans hck) hn.1 hE)
  have HP := Lib.hid (hp.below hb0)
  obtain ⟨E, hEe⟩ : ∃ E, pathE n m path = E := ⟨_, rfl⟩
  rw [hEe] at hpe ⊢
  have HPE := Lib.hid hEe
  have h1 : (E != 0) = true := by simpa using hpe
  clear hr hb0 qb hE hEe hpe hck hadb hp
  go_enter Tryz.func55, Tryz.ntmps55
  go_wp2_with fail
  refine CC.out.mono ?_
  rintro e w1 ⟨rfl, hb1⟩
  have pb : Bk w1 (w.heap.size + 1) 104 #[.slice none 0 0, .int .i64 0, .int .i64 0] := HQ.out.later hb1
  have HB1 : Hid (Below w.heap.size w w1) := HB0.out.trans (hb1.mono HB0.out.size)
  have hz1 : w.heap.size + 2 ≤ w1.heap.size := by have := hb1.size; simp at this; omega
  have hb2' : Below w1.heap.size w1 (w1.alloc (.cells #[.slice (some ad) n c, .int .i64 b, .int .i64 m] 104)) := (Below.refl _ _).alloc (Nat.le_refl _) _
  have CP := Lib.hid (checkPath_any (some ad) n c m b P k cp path (w1.alloc (.cells #[.slice (some ad) n c, .int .i64 b, .int .i64 m] 104)) ((HP.out.below hb1).below hb2') hk hn.2 hm)
  have HPB := Lib.hid (pb.alloc (.cells #[.slice (some ad) n c, .int .i64 b, .int .i64 m] 104))
  have HN := Lib.hid (Bk.new w1 104 #[.slice (some ad) n c, .int .i64 b, .int .i64 m])
  clear pb hb1 CC hb2'
  rw [HPE.out] at CP
  go_wp2_with fail
  refine CP.out.mono ?_
  rintro e w2 ⟨rfl, hb2⟩
  have qn : Bk w2 w1.heap.size 104 #[.slice (some ad) n c, .int .i64 b, .int .i64 m] := HN.out.later hb2
  have pb : Bk w2 (w.heap.size + 1) 104 #[.slice none 0 0, .int .i64 0, .int .i64 0] := HPB.out.later hb2
  have HB2 : Hid (Below w.heap.size w w2) := HB1.out.trans ((((Below.refl _ w1).alloc (Nat.le_refl _) (.cells #[.slice (some ad) n c, .int .i64 b, .int .i64 m] 104)).trans (hb2.mono (by simp))).mono HB1.out.size)
  have n0 : w2.cell? ⟨w1.heap.size, 0, none⟩ = some (.slice (some ad) n c) := by rw [qn.cell]; rfl
  have n1 : w2.cell? ⟨w1.heap.size, 1, none⟩ = some (.int .i64 b) := by rw [qn.cell]; rfl
  have n2 : w2.cell? ⟨w1.heap.size, 2, none⟩ = some (.int .i64 m) := by rw [qn.cell]; rfl
  have t0 : w2.cell? ⟨w.heap.size + 1, 0, none⟩ = some (.slice none 0 0) := by rw [pb.cell]; rfl
  have f0 := pb.frozen 0
  have t1 : w2.cell? ⟨w.heap.size + 1, 1, none⟩ = some (.int .i64 0) := by rw [pb.cell]; rfl
  have f1 := pb.frozen 1
  have t2 : w2.cell? ⟨w.heap.size + 1, 2, none⟩ = some (.int .i64 0) := by rw [pb.cell]; rfl
  have f2 := pb.frozen 2
  have HPB2 := Lib.hid pb
  clear pb hb2 CP qn HN HPB
  go_wp2
  have HF := Lib.hid (((HPB2.out.set_ 0 (.slice none 0 0)).set_ 1 (.int .i64 0)).set_ 2 (.int .i64 0))
  refine bodyPost_ret (v := .tuple #[.agg #[.slice none 0 0, .int .i64 0, .int .i64 0], .int .i64 E]) ?_ rfl ⟨rfl, ((HB2.out.setCell (p := ⟨w.heap.size + 1, 0, none⟩) (by dsimp only; omega) _).setCell (p := ⟨w.heap.size + 1, 1, none⟩) (by dsimp only; omega) _).setCell (p := ⟨w.heap.size + 1, 2, none⟩) (by dsimp only; omega) _⟩
  exact results_cell_tmp (fn := Tryz.f55) rfl _ _ (w.heap.size + 1) 104 _ (0, 0) _ rfl HF.out Tryz.underlying104 rfl taskSize

set_option maxRecDepth 100000 in
set_option maxHeartbeats 1000000 in
theorem checkedWith_ok (ad : Addr) (n c m c' : Nat) (B : Option Addr) (rows : List (List Int)) (b : Int) (P : Option Addr) (k cp : Nat) (path : List Int) (w : World) (hr : RdG w (some ad) n rows) (hn : 0 < n ∧ n ≤ 1000000) (hm : m ≤ 1000000) (hk : k ≤ 1000000) (hadb : ad.block < w.heap.size) (hck : w.cell? ad = some (.slice B m c')) (hp : RdI w P k path) (hE : taskE rows b = 0) (hpe : pathE n m path = 0) :
    Calls Tryz.prog 55 #[.agg #[.slice (some ad) n c, .int .i64 b], .slice P k cp] w fun e w' => e = .returned (.tuple #[.agg #[.slice (some ad) n c, .int .i64 b, .int .i64 m], .int .i64 0]) ∧ Below w.heap.size w w' := by
  have hb0 : Below w.heap.size w ((w.alloc (.cells #[.slice (some ad) n c, .int .i64 b] 55)).alloc (.cells #[.slice none 0 0, .int .i64 0, .int .i64 0] 104)) := ((Below.refl _ w).alloc (Nat.le_refl _) _).alloc (by simp) _
  have qb : Bk ((w.alloc (.cells #[.slice (some ad) n c, .int .i64 b] 55)).alloc (.cells #[.slice none 0 0, .int .i64 0, .int .i64 0] 104)) (w.heap.size + 1) 104 #[.slice none 0 0, .int .i64 0, .int .i64 0] := by
    have := Bk.new (w.alloc (.cells #[.slice (some ad) n c, .int .i64 b] 55)) 104 #[.slice none 0 0, .int .i64 0, .int .i64 0]
    simpa using this
  have HQ := Lib.hid qb
  have HB0 := Lib.hid hb0
  have CC := Lib.hid (checked_ok ad n c m c' B rows b _ (hr.below hb0) (by omega) (Nat.lt_of_lt_of_le hadb hb0.size) ((hb0.cell hadb).trans hck) hn.1 hE)
  have HP := Lib.hid (hp.below hb0)
  have HPE := Lib.hid hpe
  clear hr hb0 qb hE hpe hck hadb hp
  go_enter Tryz.func55, Tryz.ntmps55
  go_wp2_with fail
  refine CC.out.mono ?_
  rintro e w1 ⟨rfl, hb1⟩
  have pb : Bk w1 (w.heap.size + 1) 104 #[.slice none 0 0, .int .i64 0, .int .i64 0] := HQ.out.later hb1
  have HB1 : Hid (Below w.heap.size w w1) := HB0.out.trans (hb1.mono HB0.out.size)
  have hz1 : w.heap.size + 2 ≤ w1.heap.size := by have := hb1.size; simp at this; omega
  have hb2' : Below w1.heap.size w1 (w1.alloc (.cells #[.slice (some ad) n c, .int .i64 b, .int .i64 m] 104)) := (Below.refl _ _).alloc (Nat.le_refl _) _
  have CP := Lib.hid (checkPath_any (some ad) n c m b P k cp path (w1.alloc (.cells #[.slice (some ad) n c, .int .i64 b, .int .i64 m] 104)) ((HP.out.below hb1).below hb2') hk hn.2 hm)
  have HPB := Lib.hid (pb.alloc (.cells #[.slice (some ad) n c, .int .i64 b, .int .i64 m] 104))
  have HN := Lib.hid (Bk.new w1 104 #[.slice (some ad) n c, .int .i64 b, .int .i64 m])
  clear pb hb1 CC hb2'
  rw [HPE.out] at CP
  go_wp2_with fail
  refine CP.out.mono ?_
  rintro e w2 ⟨rfl, hb2⟩
  have qn : Bk w2 w1.heap.size 104 #[.slice (some ad) n c, .int .i64 b, .int .i64 m] := HN.out.later hb2
  have pb : Bk w2 (w.heap.size + 1) 104 #[.slice none 0 0, .int .i64 0, .int .i64 0] := HPB.out.later hb2
  have HB2 : Hid (Below w.heap.size w w2) := HB1.out.trans ((((Below.refl _ w1).alloc (Nat.le_refl _) (.cells #[.slice (some ad) n c, .int .i64 b, .int .i64 m] 104)).trans (hb2.mono (by simp))).mono HB1.out.size)
  have n0 : w2.cell? ⟨w1.heap.size, 0, none⟩ = some (.slice (some ad) n c) := by rw [qn.cell]; rfl
  have n1 : w2.cell? ⟨w1.heap.size, 1, none⟩ = some (.int .i64 b) := by rw [qn.cell]; rfl
  have n2 : w2.cell? ⟨w1.heap.size, 2, none⟩ = some (.int .i64 m) := by rw [qn.cell]; rfl
  have t0 : w2.cell? ⟨w.heap.size + 1, 0, none⟩ = some (.slice none 0 0) := by rw [pb.cell]; rfl
  have f0 := pb.frozen 0
  have t1 : w2.cell? ⟨w.heap.size + 1, 1, none⟩ = some (.int .i64 0) := by rw [pb.cell]; rfl
  have f1 := pb.frozen 1
  have t2 : w2.cell? ⟨w.heap.size + 1, 2, none⟩ = some (.int .i64 0) := by rw [pb.cell]; rfl
  have f2 := pb.frozen 2
  have HPB2 := Lib.hid pb
  clear pb hb2 CP qn HN HPB
  go_wp2
  have HF := Lib.hid (((HPB2.out.set_ 0 (.slice (some ad) n c)).set_ 1 (.int .i64 b)).set_ 2 (.int .i64 m))
  refine bodyPost_ret (v := .tuple #[.agg #[.slice (some ad) n c, .int .i64 b, .int .i64 m], .int .i64 0]) ?_ rfl ⟨rfl, ((HB2.out.setCell (p := ⟨w.heap.size + 1, 0, none⟩) (by dsimp only; omega) _).setCell (p := ⟨w.heap.size + 1, 1, none⟩) (by dsimp only; omega) _).setCell (p := ⟨w.heap.size + 1, 2, none⟩) (by dsimp only; omega) _⟩
  exact results_cell_tmp (fn := Tryz.f55) rfl _ _ (w.heap.size + 1) 104 _ (0, 0) _ rfl HF.out Tryz.underlying104 rfl taskSize

end Go.Proofs.YtjjflbnopphciaaGreatDoor

namespace Go.Proofs.YtjjflbnopphciaaGreatDoor
open Go.RowKit

theorem getD_in {α : Type} (l : List α) (j : Nat) (d : α) (h : j < l.length) : l.getD j d ∈ l := by
  rw [List.getD_eq_getElem?_getD, List.getElem?_eq_getElem h]; exact List.getElem_mem _
/-- A value of a grid, where it lies. -/
theorem grid_at {w : World} {ad : Addr} {n m : Nat} {rows : List (List Int)} (hr : RdG w (some ad) n rows) (hb : ∀ r ∈ rows, r.length = m ∧ ∀ x ∈ r, 0 ≤ x ∧ x ≤ 255) (j t : Nat) (hj : j < n) (ht : t < m) :
    ∃ bd c, w.cell? (ad.add j) = some (.slice (some bd) m c) ∧ w.cell? (bd.add t) = some (.int .i64 ((rows.getD j []).getD t 0)) ∧ 0 ≤ (rows.getD j []).getD t 0 ∧ (rows.getD j []).getD t 0 ≤ 255 ∧ ad.block < w.heap.size ∧ bd.block < w.heap.size := by
  obtain ⟨ad', e, hlt, hc⟩ := hr.2 (by omega)
  cases e
  obtain ⟨B, m', c, h1, h2, _⟩ := hc j hj
  have hm := hb _ (getD_in rows j [] (by rw [hr.1]; exact hj))
  obtain rfl : m' = m := by rw [← h2.1, hm.1]
  obtain ⟨bd, rfl, hbb, hcb⟩ := h2.2 (by omega)
  have hv := hm.2 _ (getD_in (rows.getD j []) t 0 (by rw [hm.1]; exact ht))
  exact ⟨bd, c, h1, hcb t ht, hv.1, hv.2, hlt, hbb⟩
theorem cost_bd {rows : List (List Int)} {b : Int} {path : List Int} {n m : Nat} (hb : 0 ≤ b ∧ b ≤ 1000) (hl : rows.length = n) (hn : n ≤ 1000000) (hg : ∀ r ∈ rows, r.length = m ∧ ∀ x ∈ r, 0 ≤ x ∧ x ≤ 255) (hp : ∀ j, j < n → 0 ≤ path.getD j 0 ∧ path.getD j 0 ≤ (m : Int) - 1) (k : Nat) (hk : k ≤ n) : 0 ≤ costF rows b path k ∧ costF rows b path k ≤ 2000000000 := by
  have h := costF_bd (rows := rows) (path := path) hb (k := k) (fun j hj => by
    have hm := hg _ (getD_in rows j [] (by omega))
    have hpj := hp j (by omega)
    exact hm.2 _ (getD_in (rows.getD j []) _ 0 (by rw [hm.1]; omega)))
  omega
theorem bendAt_zero (b : Int) (path : List Int) : bendAt b path 0 = 0 := rfl
theorem bendAt_succ (b : Int) (path : List Int) (q : Nat) : bendAt b path (q + 1) = if path.getD q 0 = path.getD (q + 1) 0 then 0 else b := rfl
theorem cst_ok {rows : List (List Int)} {b : Int} {n : Nat} {path : List Int} (h : cstE rows b n path = 0) : taskE rows b = 0 ∧ pathE n (colsOf rows) path = 0 := by
  unfold cstE at h
  by_cases h0 : taskE rows b = 0
  · rw [if_pos h0] at h; exact ⟨h0, h⟩
  · rw [if_neg h0] at h; exact absurd h h0

/-- What a task and a path need: a first row, and its length. -/
theorem task_parts {A : Option Addr} {n : Nat} {rows : List (List Int)} {b : Int} {w : World} (hr : RdG w A n rows) (hE : taskE rows b = 0) :
    ∃ ad m c' B, A = some ad ∧ colsOf rows = m ∧ 0 < n ∧ n ≤ 40 ∧ 0 < m ∧ m ≤ 12 ∧ ad.block < w.heap.size ∧ w.cell? ad = some (.slice B m c') ∧ (0 ≤ b ∧ b ≤ 1000) ∧ ∀ r ∈ rows, r.length = m ∧ ∀ x ∈ r, 0 ≤ x ∧ x ≤ 255 := by
  obtain ⟨hg, hbb⟩ := task_ok hE
  obtain ⟨m, g1, g2, g3, g4, g5, g6⟩ := grid_ok hg
  have hln := hr.1
  obtain ⟨ad, rfl, hadb, hc⟩ := hr.2 (by omega)
  obtain ⟨B, m', c', hck, hrow, _⟩ := hc 0 (by omega)
  obtain rfl : m' = m := by rw [← hrow.1, g5]
  rw [addZ] at hck
  exact ⟨ad, m', c', B, rfl, g5, by omega, by omega, g2, g4, hadb, hck, hbb, row_bounds g6⟩

end Go.Proofs.YtjjflbnopphciaaGreatDoor

