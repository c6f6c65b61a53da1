import Derived.Test.YtpkjkegcdddimaaDoorP7
import Derived.Test.YtpkjkegcdddimaaDoorB6
import Derived.Test.YtpkjkegcdddimaaDoorGA
namespace Go.Proofs.YtpkjkegcdddimaaDoor

def firstE (f : Nat → Int) : Nat → Nat → Int
  | _, 0 => 0
  | k, m + 1 => if f k = 0 then firstE f (k + 1) m else f k
theorem firstE_zero {f : Nat → Int} : ∀ {m k : Nat}, (∀ i, k ≤ i → i < k + m → f i = 0) → firstE f k m = 0
  | 0, _, _ => rfl
  | m + 1, k, h => by
    unfold firstE
    rw [if_pos (h k (Nat.le_refl _) (by omega))]
    exact firstE_zero fun i h1 h2 => h i (by omega) (by omega)

/-- Velocities. -/
def velL (xs : List Int) : List Int := (List.range (xs.length - 1)).map fun i => xs.getD (i + 1) 0 - xs.getD i 0
def velTo (xs : List Int) (k : Nat) : List Int := (List.range k).map fun i => xs.getD (i + 1) 0 - xs.getD i 0
theorem velTo_succ (xs : List Int) (k : Nat) : velTo xs (k + 1) = velTo xs k ++ [xs.getD (k + 1) 0 - xs.getD k 0] := by simp [velTo, List.range_succ]
theorem velTo_length (xs : List Int) (k : Nat) : (velTo xs k).length = k := by simp [velTo]
theorem velL_length (xs : List Int) : (velL xs).length = xs.length - 1 := by simp [velL]
theorem velL_at (xs : List Int) (k : Nat) (h : k < xs.length - 1) : (velL xs).getD k 0 = xs.getD (k + 1) 0 - xs.getD k 0 := by
  rw [List.getD_eq_getElem?_getD, List.getElem?_eq_getElem (by rw [velL_length]; exact h)]
  simp [velL]

/-- Positions with velocities. -/
def posAt (s : Int) (v : List Int) : Nat → Int
  | 0 => s
  | k + 1 => posAt s v k + v.getD k 0
def posTo (s : Int) (v : List Int) (n : Nat) : List Int := (List.range n).map (posAt s v)
theorem posTo_succ (s : Int) (v : List Int) (n : Nat) : posTo s v (n + 1) = posTo s v n ++ [posAt s v n] := by simp [posTo, List.range_succ]
theorem posTo_length (s : Int) (v : List Int) (n : Nat) : (posTo s v n).length = n := by simp [posTo]
theorem posTo_at (s : Int) (v : List Int) (n k : Nat) (h : k < n) : (posTo s v n)[k]? = some (posAt s v k) := by simp [posTo, h]
def stepE (s : Int) (v : List Int) (k : Nat) : Int := if fromB (-2000000) 2000000 [v.getD k 0] = true then (if fromB (-1000000) 1000000 [posAt s v (k + 1)] = true then 0 else 23) else 2
def psE (s : Int) (v : List Int) : Int := if fromB (-1000000) 1000000 [s] = true then (if v.length < 200 then firstE (stepE s v) 0 v.length else 8) else 2
def psL (s : Int) (v : List Int) : List Int := if psE s v = 0 then posTo s v (v.length + 1) else []
theorem psL_err {s : Int} {v : List Int} (h : psE s v ≠ 0) : psL s v = [] := if_neg h

/-- Jumps. -/
def jmpB (xs : List Int) (limit : Int) (i : Nat) : Bool := !fromB (-limit) limit [xs.getD i 0 - xs.getD (i - 1) 0]
def jmpTo (xs : List Int) (limit : Int) : Nat → List Int
  | 0 => []
  | k + 1 => if k ≠ 0 ∧ jmpB xs limit k = true then jmpTo xs limit k ++ [(k : Int)] else jmpTo xs limit k
def limE (n : Int) : Int := if fromB 0 2000000 [n] = true then 0 else 2
def jmpE (xs : List Int) (limit : Int) : Int := if posE xs = 0 then limE limit else posE xs
def jmpL (xs : List Int) (limit : Int) : List Int := if jmpE xs limit = 0 then jmpTo xs limit xs.length else []
theorem jmpTo_length (xs : List Int) (limit : Int) : ∀ k, (jmpTo xs limit k).length ≤ k
  | 0 => Nat.le_refl _
  | k + 1 => by
    have := jmpTo_length xs limit k
    unfold jmpTo
    split
    · rw [List.length_append]; simp; omega
    · omega

/-- Velocities and positions reverse each other. -/
theorem posAt_vel (xs : List Int) : ∀ k, k < xs.length → posAt (xs.getD 0 0) (velL xs) k = xs.getD k 0
  | 0, _ => rfl
  | k + 1, h => by
    have ih := posAt_vel xs k (by omega)
    show posAt _ _ k + (velL xs).getD k 0 = _
    rw [ih, velL_at xs k (by omega)]
    omega
theorem psE_vel {xs : List Int} (h : posE xs = 0) (hn : 0 < xs.length) : psE (xs.getD 0 0) (velL xs) = 0 ∧ psL (xs.getD 0 0) (velL xs) = xs := by
  obtain ⟨hl, hs⟩ := pos_ok h
  have e : psE (xs.getD 0 0) (velL xs) = 0 := by
    unfold psE
    rw [if_pos (by rw [fromB_one]; exact hs.at_ 0), if_pos (by rw [velL_length]; omega)]
    refine firstE_zero fun i _ hi => ?_
    rw [velL_length] at hi
    unfold stepE
    have h1 := hs.at_ i
    have h2 := hs.at_ (i + 1)
    rw [velL_at xs i (by omega), posAt_vel xs (i + 1) (by omega), if_pos (by rw [fromB_one]; omega), if_pos (by rw [fromB_one]; exact h2)]
  refine ⟨e, ?_⟩
  unfold psL
  rw [if_pos e]
  apply List.ext_getElem
  · rw [posTo_length, velL_length]; omega
  · intro i h1 h2
    have h3 := posTo_at (xs.getD 0 0) (velL xs) ((velL xs).length + 1) i (by rw [posTo_length] at h1; exact h1)
    rw [List.getElem?_eq_getElem h1] at h3
    have h4 := posAt_vel xs i h2
    injection h3 with h3
    rw [h3, h4, List.getD_eq_getElem?_getD, List.getElem?_eq_getElem h2]
    rfl

end Go.Proofs.YtpkjkegcdddimaaDoor

namespace Go.Proofs.YtpkjkegcdddimaaDoor
open Go.RowKit

theorem within_any (n lo hi : Int) (w : World) :
    Calls Tryd.prog 18 #[.int .i64 n, .int .i64 lo, .int .i64 hi] w fun e w' => e = .returned (.bool (fromB lo hi [n])) ∧ w = w' := by
  by_cases h1 : lo ≤ n
  · go_enter Tryd.func18, Tryd.ntmps18
    go_wp2
    go_ret
    exact ⟨by simp [fromB, h1], rfl⟩
  · go_enter Tryd.func18, Tryd.ntmps18
    go_wp2
    go_ret
    exact ⟨by simp [fromB]; omega, rfl⟩

theorem rd_ownN {w : World} {base : Nat} {v : Value} {n : Nat} {xs : List Int} (h : w.ownsRow base 3 1 v n (xs.map (Value.int .i64))) :
    ∃ A c, v = .slice A n c ∧ n ≤ c ∧ RdI w A n xs ∧ (A = none → n = 0 ∧ c = 0) := by
  have h2 := h.2
  obtain ⟨A, c, rfl, hnc, hr⟩ := rd_of_own h
  refine ⟨A, c, rfl, hnc, hr, ?_⟩
  rintro rfl
  rcases h2 with ⟨e, h0⟩ | ⟨g, cap, cur, e, _⟩
  · injection e with _ e1 e2; exact ⟨e1, e2⟩
  · injection e with e; cases e

theorem copyInts_any (A : Option Addr) (n c : Nat) (l : List Int) (w : World) (hA : A = none → n = 0 ∧ c = 0) (hr : RdI w A n l) (hn : n ≤ 1000000) :
    Calls Tryd.prog 59 #[.slice A n c] w (OwnS w l) := by
  have ho : Hid ((w.alloc (.cells #[] 3)).ownsRow w.heap.size 3 1 (.slice (some ⟨w.heap.size, 0, none⟩) 0 0) 0 ([] : List Value)) := World.ownsRow_lit w #[] 0 (Nat.le_refl _) (by unfold maxLen; omega) rfl
  obtain ⟨i0, hi, hz0, hz1, hz2⟩ := info_parts intInfo'
  cases A with
  | none =>
    obtain ⟨rfl, rfl⟩ := hA rfl
    have hl : l = [] := List.eq_nil_of_length_eq_zero hr.1
    subst hl
    clear hA hr
    go_enter Tryd.func59, Tryd.ntmps59
    go_wp2_with (at_builtin; refine wpList_append_own_none rfl (.tmp 3) (.tmp 4) 28 rfl w.heap.size 3 i0 1 Tryd.underlying28 hi _ _ _ rfl ho.out rfl ?_)
    go_ret
    exact ⟨⟨_, rfl, ho.out⟩, (Below.refl _ _).alloc (Nat.le_refl _) _⟩
  | some ad =>
    have HR := Lib.hid hr; clear hr hA
    have hlen : Hid ((l.map (Value.int .i64)).length = n * 1) := by show List.length _ = _; rw [List.length_map]; have := HR.out.1; omega
    have hsrc : Hid (∀ j u, (l.map (Value.int .i64))[j]? = some u → (w.alloc (.cells #[] 3)).cell? (ad.add j) = some u) := by
      intro j u hu
      have hj : j < l.length := by
        have := (List.getElem?_eq_some_iff.1 hu).1
        simpa using this
      have hl := HR.out.1
      obtain ⟨ad', ha, hlt, hc⟩ := HR.out.2 (by omega)
      obtain rfl := Option.some.inj ha
      rw [World.cell?_alloc_lt w _ _ (by rw [addBlock]; exact hlt), hc j (by omega)]
      rw [List.getElem?_map, List.getElem?_eq_getElem hj] at hu
      simp at hu
      rw [← hu]
      simp [List.getD_eq_getElem?_getD, List.getElem?_eq_getElem hj]
    have hone : Hid (∀ u ∈ l.map (Value.int .i64), u.oneCell' = true) := by
      intro u hu
      obtain ⟨x, _, rfl⟩ := List.mem_map.1 hu
      rfl
    obtain ⟨news, hnews⟩ : ∃ news, l.map (Value.int .i64) = news := ⟨_, rfl⟩
    rw [hnews] at hlen hsrc hone
    have HNW := Lib.hid hnews
    clear hnews
    go_enter Tryd.func59, Tryd.ntmps59
    go_wp2_with (at_builtin; refine wpList_append_own _ rfl (.tmp 3) (.tmp 4) 28 rfl w.heap.size 3 i0 _ 1 8 Tryd.underlying28 hi hz0 hz1 hz2 rfl (by decide) _ _ _ rfl ho.out ad n c news rfl hlen.out hsrc.out hone.out (by unfold maxLen; omega) (by omega) (by simp) ?_)
    intro v w2 ho2 hg2 _
    have b2 : Below w.heap.size w w2 := ((Below.refl _ _).alloc (Nat.le_refl _) _).grown hg2 (by simp) (fun g hg => (ho.out.lt g hg).1)
    have o2 := Lib.hid ho2
    have B2 := Lib.hid b2
    clear ho2 hg2 b2
    go_wp2
    go_ret
    refine ⟨⟨_, rfl, ?_⟩, B2.out⟩
    have := o2.out
    rw [HNW.out, HR.out.1]
    simpa using this

/-- The error of positions of which there is at least one. -/
def turnErr (xs : List Int) : Int := if posE xs = 0 then (if xs.length = 0 then 10 else 0) else posE xs
theorem size_any (n : Int) (w : World) (h : -4611686018427387904 ≤ n ∧ n ≤ 4611686018427387904) :
    Calls Tryd.prog 19 #[.int .i64 n] w fun e w' => e = .returned (.int .i64 (if n < 0 then -n else n)) ∧ w = w' := by
  have hw : IntKind.i64.wrap (-n) = -n := IntWalk.i64_in _ (by omega)
  by_cases h0 : n < 0
  · have h1 : n < -n := by omega
    go_enter Tryd.func19, Tryd.ntmps19
    go_wp2
    go_ret
    exact ⟨by first | rfl | (rw [if_pos h0]; rfl), rfl⟩
  · have h1 : ¬ n < -n := by omega
    go_enter Tryd.func19, Tryd.ntmps19
    go_wp2
    go_ret
    exact ⟨by first | rfl | (rw [if_neg h0]; rfl), rfl⟩

end Go.Proofs.YtpkjkegcdddimaaDoor

namespace Go.Proofs.YtpkjkegcdddimaaDoor
open Go.RowKit

theorem jmpTo_step (xs : List Int) (limit : Int) (q : Nat) : jmpTo xs limit (q + 1 + 1) = if jmpB xs limit (q + 1) = true then jmpTo xs limit (q + 1) ++ [((q + 1 : Nat) : Int)] else jmpTo xs limit (q + 1) := by
  show (if (q + 1) ≠ 0 ∧ jmpB xs limit (q + 1) = true then _ else _) = _
  by_cases h : jmpB xs limit (q + 1) = true
  · rw [if_pos ⟨by omega, h⟩, if_pos h]
  · rw [if_neg (fun h' => h h'.2), if_neg h]
theorem jmpTo_one (xs : List Int) (limit : Int) : jmpTo xs limit 1 = [] := rfl

end Go.Proofs.YtpkjkegcdddimaaDoor

namespace Go.Proofs.YtpkjkegcdddimaaDoor
open Go.RowKit

end Go.Proofs.YtpkjkegcdddimaaDoor

