import Derived.Test.YtpkjkegcdddimaaDoorR6
import Derived.Test.YtpkjkegcdddimaaDoorS0
import Derived.Test.YtpkjkegcdddimaaDoorH7
import Derived.Deep.Slices
namespace Go.Proofs.YtpkjkegcdddimaaDoor

/-- Squares of distances. -/
def sqF (a b : Int × Int) : Int := (a.1 - b.1) * (a.1 - b.1) + (a.2 - b.2) * (a.2 - b.2)
theorem neg_sq (a b : Int) : (a - b) * (a - b) = (b - a) * (b - a) := by
  rw [show b - a = -(a - b) by omega, Int.neg_mul_neg]
theorem sqF_comm (a b : Int × Int) : sqF a b = sqF b a := by
  unfold sqF
  rw [neg_sq a.1 b.1, neg_sq a.2 b.2]
theorem sq_bd {x : Int} {m : Int} (h : -m ≤ x ∧ x ≤ m) : 0 ≤ x * x ∧ x * x ≤ m * m := by
  have h0 : 0 ≤ m := by omega
  rcases Int.le_total 0 x with hx | hx
  · exact ⟨Int.mul_nonneg hx hx, Int.mul_le_mul h.2 h.2 hx h0⟩
  · have e : x * x = (-x) * (-x) := by rw [Int.neg_mul_neg]
    rw [e]
    exact ⟨Int.mul_nonneg (by omega) (by omega), Int.mul_le_mul (by omega) (by omega) (by omega) h0⟩
/-- The first index with a property, or -1. -/
def fstF (b : Nat → Bool) : Nat → Int
  | 0 => -1
  | k + 1 => if fstF b k = -1 then (if b k = true then (k : Int) else -1) else fstF b k
theorem fstF_no {b : Nat → Bool} {k : Nat} (h : fstF b k = -1) (hb : b k = false) : fstF b (k + 1) = -1 := by
  show (if fstF b k = -1 then (if b k = true then (k : Int) else -1) else fstF b k) = -1
  rw [if_pos h, hb]; rfl
theorem fstF_yes {b : Nat → Bool} {k : Nat} (h : fstF b k = -1) (hb : b k = true) : ∀ m, k < m → fstF b m = (k : Int)
  | 0, hm => absurd hm (by omega)
  | m + 1, hm => by
    show (if fstF b m = -1 then (if b m = true then (m : Int) else -1) else fstF b m) = k
    by_cases e : k < m
    · rw [fstF_yes h hb m e, if_neg (by omega)]
    · obtain rfl : k = m := by omega
      rw [if_pos h, if_pos hb]
theorem fstF_bd (b : Nat → Bool) : ∀ k, -1 ≤ fstF b k ∧ fstF b k < k
  | 0 => by simp [fstF]
  | k + 1 => by
    have := fstF_bd b k
    have e : fstF b (k + 1) = if fstF b k = -1 then (if b k = true then (k : Int) else -1) else fstF b k := rfl
    rw [e]
    split
    · split <;> omega
    · omega
theorem fstF_none {b : Nat → Bool} : ∀ {k : Nat}, fstF b k = -1 → ∀ i, i < k → b i = false
  | 0, _, i, hi => absurd hi (by omega)
  | k + 1, h, i, hi => by
    have e : fstF b (k + 1) = if fstF b k = -1 then (if b k = true then (k : Int) else -1) else fstF b k := rfl
    rw [e] at h
    by_cases h1 : fstF b k = -1
    · rw [if_pos h1] at h
      by_cases h2 : i < k
      · exact fstF_none h1 i h2
      · obtain rfl : i = k := by omega
        cases hb : b i with
        | false => rfl
        | true => rw [hb, if_pos rfl] at h; omega
    · rw [if_neg h1] at h; exact absurd h h1
theorem fstF_all {b : Nat → Bool} : ∀ {k : Nat}, (∀ i, i < k → b i = false) → fstF b k = -1
  | 0, _ => rfl
  | k + 1, h => fstF_no (fstF_all fun i hi => h i (by omega)) (h k (by omega))
/-- A point that contradicts a center. -/
def offB (rl rh : Int) (ps : List (Int × Int)) (c : Int × Int) (i : Nat) : Bool := !fromB (rl * rl) (rh * rh) [sqF (ps.getD i (0, 0)) c]
def misI (rl rh : Int) (ps : List (Int × Int)) (c : Int × Int) : Int := fstF (offB rl rh ps c) ps.length
def ptB (ps : List (Int × Int)) (i : Nat) : Bool := fromB (-1000) 1000 [(ps.getD i (0, 0)).1, (ps.getD i (0, 0)).2]
def endsB (ps : List (Int × Int)) (xl xh yl yh : Int) : Bool := decide (fstF (fun i => !ptB ps i) ps.length = -1) && fromB (-1000) 1000 [xl, xh, yl, yh]
/-- The error of a circle. -/
def circE (ps : List (Int × Int)) (rl rh xl xh yl yh : Int) : Int :=
  if ps.length = 0 then 10 else if 20 < ps.length then 8
  else if endsB ps xl xh yl yh = true ∧ fromB 0 1000 [rl, rh] = true then (if rh < rl ∨ xh < xl ∨ yh < yl then 9 else if 30 < xh - xl + 1 ∨ 30 < yh - yl + 1 then 8 else 0)
  else 2
theorem fromB_two {lo hi a b : Int} : fromB lo hi [a, b] = true ↔ (lo ≤ a ∧ a ≤ hi) ∧ lo ≤ b ∧ b ≤ hi := by simp [fromB]
theorem fromB_four {lo hi a b c d : Int} : fromB lo hi [a, b, c, d] = true ↔ (lo ≤ a ∧ a ≤ hi) ∧ (lo ≤ b ∧ b ≤ hi) ∧ (lo ≤ c ∧ c ≤ hi) ∧ lo ≤ d ∧ d ≤ hi := by simp [fromB]
theorem circ_ok {ps : List (Int × Int)} {rl rh xl xh yl yh : Int} (h : circE ps rl rh xl xh yl yh = 0) :
    (0 < ps.length ∧ ps.length ≤ 20) ∧ (∀ i, i < ps.length → (-1000 ≤ (ps.getD i (0, 0)).1 ∧ (ps.getD i (0, 0)).1 ≤ 1000) ∧ -1000 ≤ (ps.getD i (0, 0)).2 ∧ (ps.getD i (0, 0)).2 ≤ 1000) ∧ (0 ≤ rl ∧ rl ≤ rh ∧ rh ≤ 1000) ∧ (-1000 ≤ xl ∧ xl ≤ xh ∧ xh ≤ 1000 ∧ xh - xl + 1 ≤ 30) ∧ -1000 ≤ yl ∧ yl ≤ yh ∧ yh ≤ 1000 ∧ yh - yl + 1 ≤ 30 := by
  unfold circE at h
  by_cases h0 : ps.length = 0
  · rw [if_pos h0] at h; omega
  · rw [if_neg h0] at h
    by_cases h1 : 20 < ps.length
    · rw [if_pos h1] at h; omega
    · rw [if_neg h1] at h
      by_cases h2 : endsB ps xl xh yl yh = true ∧ fromB 0 1000 [rl, rh] = true
      · rw [if_pos h2] at h
        obtain ⟨h3, h4⟩ := h2
        unfold endsB at h3
        rw [Bool.and_eq_true, decide_eq_true_eq, fromB_four] at h3
        rw [fromB_two] at h4
        by_cases h5 : rh < rl ∨ xh < xl ∨ yh < yl
        · rw [if_pos h5] at h; omega
        · rw [if_neg h5] at h
          by_cases h6 : 30 < xh - xl + 1 ∨ 30 < yh - yl + 1
          · rw [if_pos h6] at h; omega
          · refine ⟨by omega, fun i hi => ?_, by omega, by omega, by omega⟩
            have h7 := fstF_none h3.1 i hi
            unfold ptB at h7
            rw [Bool.not_eq_false', fromB_two] at h7
            exact h7
      · rw [if_neg h2] at h; omega
def inB (xl xh yl yh : Int) (c : Int × Int) : Bool := fromB xl xh [c.1] && fromB yl yh [c.2]
def ctrE (ps : List (Int × Int)) (rl rh xl xh yl yh : Int) (c : Int × Int) : Int := if inB xl xh yl yh c = true then (if misI rl rh ps c = -1 then 0 else 19) else 2
def ctrI (ps : List (Int × Int)) (rl rh xl xh yl yh : Int) (c : Int × Int) : Int := if inB xl xh yl yh c = true then (if misI rl rh ps c = -1 then 0 else misI rl rh ps c) else 0
def fitB (ps : List (Int × Int)) (rl rh : Int) (c : Int × Int) : Bool := decide (misI rl rh ps c = -1)

/-- All centers, column by column. -/
def colL (b : Int × Int → Bool) (x yl : Int) : Nat → List (Int × Int)
  | 0 => []
  | k + 1 => if b (x, yl + k) = true then colL b x yl k ++ [(x, yl + k)] else colL b x yl k
def allL (b : Int × Int → Bool) (xl yl : Int) (ny : Nat) : Nat → List (Int × Int)
  | 0 => []
  | a + 1 => allL b xl yl ny a ++ colL b (xl + a) yl ny
theorem colL_length (b : Int × Int → Bool) (x yl : Int) : ∀ k, (colL b x yl k).length ≤ k
  | 0 => Nat.le_refl _
  | k + 1 => by
    have := colL_length b x yl k
    unfold colL
    split
    · rw [List.length_append]; simp; omega
    · omega
theorem allL_length (b : Int × Int → Bool) (xl yl : Int) (ny : Nat) (hn : ny ≤ 30) : ∀ a, (allL b xl yl ny a).length ≤ a * 30
  | 0 => Nat.le_refl _
  | a + 1 => by
    have h1 := allL_length b xl yl ny hn a
    have h2 := colL_length b (xl + a) yl ny
    unfold allL
    rw [List.length_append]
    omega
theorem colL_mem {b : Int × Int → Bool} {x yl : Int} : ∀ {k : Nat} {p : Int × Int}, p ∈ colL b x yl k ↔ p.1 = x ∧ yl ≤ p.2 ∧ p.2 < yl + k ∧ b p = true
  | 0, p => by simp [colL]; omega
  | k + 1, p => by
    unfold colL
    split
    · rename_i h
      rw [List.mem_append, colL_mem, List.mem_singleton]
      constructor
      · rintro (h1 | rfl)
        · exact ⟨h1.1, h1.2.1, by omega, h1.2.2.2⟩
        · exact ⟨rfl, by dsimp only; omega, by dsimp only; omega, h⟩
      · rintro ⟨h1, h2, h3, h4⟩
        by_cases e : p.2 < yl + k
        · exact .inl ⟨h1, h2, e, h4⟩
        · right
          ext
          · exact h1
          · dsimp only; omega
    · rename_i h
      rw [colL_mem]
      constructor
      · rintro ⟨h1, h2, h3, h4⟩
        exact ⟨h1, h2, by omega, h4⟩
      · rintro ⟨h1, h2, h3, h4⟩
        refine ⟨h1, h2, ?_, h4⟩
        by_cases e : p.2 < yl + k
        · exact e
        · have e2 : p = (x, yl + k) := by
            ext
            · exact h1
            · dsimp only; omega
          rw [e2] at h4
          exact absurd h4 h
theorem allL_mem {b : Int × Int → Bool} {xl yl : Int} {ny : Nat} : ∀ {a : Nat} {p : Int × Int}, p ∈ allL b xl yl ny a ↔ (xl ≤ p.1 ∧ p.1 < xl + a) ∧ yl ≤ p.2 ∧ p.2 < yl + ny ∧ b p = true
  | 0, p => by simp [allL]; omega
  | a + 1, p => by
    unfold allL
    rw [List.mem_append, allL_mem, colL_mem]
    constructor
    · rintro (h | h)
      · exact ⟨by omega, h.2⟩
      · exact ⟨by omega, h.2⟩
    · rintro ⟨h1, h2⟩
      by_cases e : p.1 < xl + a
      · exact .inl ⟨⟨h1.1, e⟩, h2⟩
      · exact .inr ⟨by omega, h2⟩
/-- The least and the greatest of the first numbers. -/
def minZ (xs : List Int) : Nat → Int
  | 0 => xs.getD 0 0
  | k + 1 => min (minZ xs k) (xs.getD k 0)
def maxZ (xs : List Int) : Nat → Int
  | 0 => xs.getD 0 0
  | k + 1 => max (maxZ xs k) (xs.getD k 0)
theorem minZ_one (xs : List Int) : minZ xs 1 = xs.getD 0 0 := by simp [minZ]
theorem maxZ_one (xs : List Int) : maxZ xs 1 = xs.getD 0 0 := by simp [maxZ]
theorem minZ_le (xs : List Int) : ∀ {k i : Nat}, i < k → minZ xs k ≤ xs.getD i 0
  | k + 1, i, h => by
    show min (minZ xs k) (xs.getD k 0) ≤ _
    by_cases e : i < k
    · have := minZ_le xs e; omega
    · obtain rfl : i = k := by omega
      omega
theorem maxZ_ge (xs : List Int) : ∀ {k i : Nat}, i < k → xs.getD i 0 ≤ maxZ xs k
  | k + 1, i, h => by
    show _ ≤ max (maxZ xs k) (xs.getD k 0)
    by_cases e : i < k
    · have := maxZ_ge xs e; omega
    · obtain rfl : i = k := by omega
      omega
theorem minZ_app (xs : List Int) (y : Int) (h0 : 0 < xs.length) : ∀ k, k ≤ xs.length → minZ (xs ++ [y]) k = minZ xs k
  | 0, _ => by show (xs ++ [y]).getD 0 0 = xs.getD 0 0; rw [List.getD_eq_getElem?_getD, List.getElem?_append_left h0, ← List.getD_eq_getElem?_getD]
  | k + 1, h => by
    show min (minZ (xs ++ [y]) k) ((xs ++ [y]).getD k 0) = min (minZ xs k) (xs.getD k 0)
    rw [minZ_app xs y h0 k (by omega), List.getD_eq_getElem?_getD, List.getElem?_append_left (by omega), ← List.getD_eq_getElem?_getD]
theorem maxZ_app (xs : List Int) (y : Int) (h0 : 0 < xs.length) : ∀ k, k ≤ xs.length → maxZ (xs ++ [y]) k = maxZ xs k
  | 0, _ => by show (xs ++ [y]).getD 0 0 = xs.getD 0 0; rw [List.getD_eq_getElem?_getD, List.getElem?_append_left h0, ← List.getD_eq_getElem?_getD]
  | k + 1, h => by
    show max (maxZ (xs ++ [y]) k) ((xs ++ [y]).getD k 0) = max (maxZ xs k) (xs.getD k 0)
    rw [maxZ_app xs y h0 k (by omega), List.getD_eq_getElem?_getD, List.getElem?_append_left (by omega), ← List.getD_eq_getElem?_getD]
/-- What the centers are told by: the first one, and their ranges. -/
def mnA (f : Int × Int → Int) (L : List (Int × Int)) : Int := minZ (L.map f) L.length
def mxA (f : Int × Int → Int) (L : List (Int × Int)) : Int := maxZ (L.map f) L.length
def hdA (L : List (Int × Int)) : Int × Int := L.getD 0 (0, 0)
theorem mnA_one (f : Int × Int → Int) (p : Int × Int) : mnA f [p] = f p := by simp [mnA, minZ]
theorem mxA_one (f : Int × Int → Int) (p : Int × Int) : mxA f [p] = f p := by simp [mxA, maxZ]
theorem getD_snoc (l : List Int) (x : Int) : (l ++ [x]).getD l.length 0 = x := by simp [List.getD_eq_getElem?_getD]
theorem mnA_snoc (f : Int × Int → Int) {L : List (Int × Int)} (p : Int × Int) (h : 0 < L.length) : mnA f (L ++ [p]) = min (mnA f L) (f p) := by
  have hl : (L.map f).length = L.length := List.length_map ..
  unfold mnA
  rw [List.map_append, List.length_append]
  show min (minZ (L.map f ++ [f p]) L.length) ((L.map f ++ [f p]).getD L.length 0) = _
  rw [minZ_app _ _ (by omega) _ (by omega), ← hl, getD_snoc, hl]
theorem mxA_snoc (f : Int × Int → Int) {L : List (Int × Int)} (p : Int × Int) (h : 0 < L.length) : mxA f (L ++ [p]) = max (mxA f L) (f p) := by
  have hl : (L.map f).length = L.length := List.length_map ..
  unfold mxA
  rw [List.map_append, List.length_append]
  show max (maxZ (L.map f ++ [f p]) L.length) ((L.map f ++ [f p]).getD L.length 0) = _
  rw [maxZ_app _ _ (by omega) _ (by omega), ← hl, getD_snoc, hl]
theorem hdA_snoc {L : List (Int × Int)} (p : Int × Int) (h : 0 < L.length) : hdA (L ++ [p]) = hdA L := by
  unfold hdA
  rw [List.getD_eq_getElem?_getD, List.getElem?_append_left h, ← List.getD_eq_getElem?_getD]
theorem mnA_le (f : Int × Int → Int) {L : List (Int × Int)} {p : Int × Int} (h : p ∈ L) : mnA f L ≤ f p ∧ f p ≤ mxA f L := by
  obtain ⟨i, hi, rfl⟩ := List.mem_iff_getElem.1 h
  have e : (L.map f).getD i 0 = f L[i] := by simp [List.getD_eq_getElem?_getD, hi]
  rw [← e]
  exact ⟨minZ_le _ hi, maxZ_ge _ hi⟩

end Go.Proofs.YtpkjkegcdddimaaDoor

namespace Go.Proofs.YtpkjkegcdddimaaDoor
open Go.RowKit

theorem RdP.ofR {w : World} {g n : Nat} {ps : List (Int × Int)} (h : RdR w g n ps) : RdP w (some ⟨g, 0, none⟩) n ps :=
  ⟨h.1, fun hn => ⟨_, rfl, h.2.1 hn, fun j hj => by
    have e1 : (⟨g, 0, none⟩ : Addr).add (j * 2) = ⟨g, j * 2, none⟩ := by rw [addOff]
    have e2 : (⟨g, j * 2, none⟩ : Addr).add 1 = ⟨g, j * 2 + 1, none⟩ := by unfold Addr.add; simp
    rw [e1, e2]; exact h.2.2 j hj⟩⟩

set_option maxRecDepth 100000 in
set_option maxHeartbeats 4000000 in
theorem square_any (a b c d : Int) (w : World) (h : ((-2000 ≤ a ∧ a ≤ 2000) ∧ -2000 ≤ b ∧ b ≤ 2000) ∧ (-2000 ≤ c ∧ c ≤ 2000) ∧ -2000 ≤ d ∧ d ≤ 2000) :
    Calls Tryd.prog 20 #[.agg #[.int .i64 a, .int .i64 b], .agg #[.int .i64 c, .int .i64 d]] w fun e w' => e = .returned (.int .i64 (sqF (a, b) (c, d))) ∧ Below w.heap.size w w' := by
  have hb0 : Below w.heap.size w ((w.alloc (.cells #[.int .i64 a, .int .i64 b] 30)).alloc (.cells #[.int .i64 c, .int .i64 d] 30)) := ((Below.refl _ _).alloc (Nat.le_refl _) _).alloc (by simp) _
  have HB := Lib.hid hb0
  have hE : sqF (a, b) (c, d) = (a - c) * (a - c) + (b - d) * (b - d) := rfl
  have hw1 : IntKind.i64.wrap (a - c) = a - c := IntWalk.i64_in _ (by omega)
  have hw2 : IntKind.i64.wrap (b - d) = b - d := IntWalk.i64_in _ (by omega)
  have hub : -4000 ≤ a - c ∧ a - c ≤ 4000 := by omega
  have hvb : -4000 ≤ b - d ∧ b - d ≤ 4000 := by omega
  obtain ⟨u, hu⟩ : ∃ u, a - c = u := ⟨_, rfl⟩
  obtain ⟨v, hv⟩ : ∃ v, b - d = v := ⟨_, rfl⟩
  rw [hu, hv] at hE
  rw [hu] at hw1 hub
  rw [hv] at hw2 hvb
  have s1 := sq_bd hub
  have s2 := sq_bd hvb
  have hw3 : IntKind.i64.wrap (u * u) = u * u := IntWalk.i64_in _ (by omega)
  have hw4 : IntKind.i64.wrap (v * v) = v * v := IntWalk.i64_in _ (by omega)
  have hw5 : IntKind.i64.wrap (u * u + v * v) = u * u + v * v := IntWalk.i64_in _ (by omega)
  have hu2 : IntKind.i64.wrap (a - c) = u := by rw [hu]; exact hw1
  have hv2 : IntKind.i64.wrap (b - d) = v := by rw [hv]; exact hw2
  rw [hE]
  clear hE hub hvb s1 s2 h hb0 hu hv
  go_enter Tryd.func20, Tryd.ntmps20
  go_wp2
  go_ret
  exact ⟨rfl, HB.out⟩

set_option maxRecDepth 100000 in
set_option maxHeartbeats 4000000 in
theorem mis1_any (b0 b1 : Nat) (A : Option Addr) (n c : Nat) (rl rh xl xh yl yh : Int) (ps : List (Int × Int)) (cx cy : Int) (k : Nat) (w : World) (hk0 : Bk w b0 39 #[.slice A n c, .int .i64 rl, .int .i64 rh, .int .i64 xl, .int .i64 xh, .int .i64 yl, .int .i64 yh]) (hk1 : Bk w b1 30 #[.int .i64 cx, .int .i64 cy])
    (hp : (-1000 ≤ (ps.getD k (0, 0)).1 ∧ (ps.getD k (0, 0)).1 ≤ 1000) ∧ -1000 ≤ (ps.getD k (0, 0)).2 ∧ (ps.getD k (0, 0)).2 ≤ 1000) (hc : (-1000 ≤ cx ∧ cx ≤ 1000) ∧ -1000 ≤ cy ∧ cy ≤ 1000) (hr : 0 ≤ rl ∧ rl ≤ 1000 ∧ 0 ≤ rh ∧ rh ≤ 1000) :
    Calls Tryd.prog 63 #[.agg #[.int .i64 (ps.getD k (0, 0)).1, .int .i64 (ps.getD k (0, 0)).2], .pointer (some ⟨b1, 0, none⟩), .pointer (some ⟨b0, 0, none⟩)] w fun e w' => e = .returned (.bool (offB rl rh ps (cx, cy) k)) ∧ Below w.heap.size w w' := by
  have hE : offB rl rh ps (cx, cy) k = !fromB (rl * rl) (rh * rh) [((ps.getD k (0, 0)).1 - cx) * ((ps.getD k (0, 0)).1 - cx) + ((ps.getD k (0, 0)).2 - cy) * ((ps.getD k (0, 0)).2 - cy)] := rfl
  obtain ⟨px, hpx⟩ : ∃ x, (ps.getD k (0, 0)).1 = x := ⟨_, rfl⟩
  obtain ⟨py, hpy⟩ : ∃ x, (ps.getD k (0, 0)).2 = x := ⟨_, rfl⟩
  rw [hpx, hpy] at hE
  rw [hpx, hpy] at hp ⊢
  rw [hE]
  have hub : -2000 ≤ px - cx ∧ px - cx ≤ 2000 := by omega
  have hvb : -2000 ≤ py - cy ∧ py - cy ≤ 2000 := by omega
  obtain ⟨u, hu⟩ : ∃ u, px - cx = u := ⟨_, rfl⟩
  obtain ⟨v, hv⟩ : ∃ v, py - cy = v := ⟨_, rfl⟩
  have hu2 : IntKind.i64.wrap (px - cx) = u := by rw [← hu]; exact IntWalk.i64_in _ (by omega)
  have hv2 : IntKind.i64.wrap (py - cy) = v := by rw [← hv]; exact IntWalk.i64_in _ (by omega)
  rw [hu, hv]
  rw [hu] at hub
  rw [hv] at hvb
  have s1 := sq_bd hub
  have s2 := sq_bd hvb
  have s3 := sq_bd (x := rl) (m := 1000) (by omega)
  have s4 := sq_bd (x := rh) (m := 1000) (by omega)
  obtain ⟨r1, hr1⟩ : ∃ z, rl * rl = z := ⟨_, rfl⟩
  obtain ⟨r2, hr2⟩ : ∃ z, rh * rh = z := ⟨_, rfl⟩
  rw [hr1] at s3
  rw [hr2] at s4
  rw [hr1, hr2]
  have hw1 : IntKind.i64.wrap (rl * rl) = r1 := by rw [hr1]; exact IntWalk.i64_in _ (by omega)
  have hw2 : IntKind.i64.wrap (rh * rh) = r2 := by rw [hr2]; exact IntWalk.i64_in _ (by omega)
  obtain ⟨uu, huu⟩ : ∃ z, u * u = z := ⟨_, rfl⟩
  obtain ⟨vv, hvv⟩ : ∃ z, v * v = z := ⟨_, rfl⟩
  rw [huu] at s1
  rw [hvv] at s2
  rw [huu, hvv]
  have hw3 : IntKind.i64.wrap (u * u) = uu := by rw [huu]; exact IntWalk.i64_in _ (by omega)
  have hw4 : IntKind.i64.wrap (v * v) = vv := by rw [hvv]; exact IntWalk.i64_in _ (by omega)
  obtain ⟨D, hD⟩ : ∃ z, uu + vv = z := ⟨_, rfl⟩
  have hw5 : IntKind.i64.wrap (uu + vv) = D := by rw [hD]; exact IntWalk.i64_in _ (by omega)
  rw [hD]
  have hb0 : Below w.heap.size w (w.alloc (.cells #[.int .i64 px, .int .i64 py] 30)) := (Below.refl _ _).alloc (Nat.le_refl _) _
  have l0 := hk0.lt
  have l1 := hk1.lt
  have HK : Hid (∀ W, Below w.heap.size w W → (W.cell? ⟨b0, 1, none⟩ = some (.int .i64 rl) ∧ W.cell? ⟨b0, 2, none⟩ = some (.int .i64 rh)) ∧ W.cell? ⟨b1, 0, none⟩ = some (.int .i64 cx) ∧ W.cell? ⟨b1, 1, none⟩ = some (.int .i64 cy)) := fun W hb => ⟨⟨by rw [(hk0.later hb).cell]; rfl, by rw [(hk0.later hb).cell]; rfl⟩, by rw [(hk1.later hb).cell]; rfl, by rw [(hk1.later hb).cell]; rfl⟩
  have CA := Lib.hid (fun W g c (h : W.cell? ⟨g, 0, none⟩ = some (.int .i64 D)) => areFrom_any (some ⟨g, 0, none⟩) 1 c [D] r1 r2 W (lit1 W g D h) (by omega))
  clear hE hpx hpy hp hc hr hu hv hub hvb s1 s2 s3 s4 hr1 hr2 huu hvv hD hk0 hk1
  go_enter Tryd.func63, Tryd.ntmps63
  go_upto_region 1 with (fail)
  obtain ⟨W1, hW1⟩ : ∃ W, w.alloc (.cells #[.int .i64 px, .int .i64 py] 30) = W := ⟨_, rfl⟩
  have HBX : Hid (Bk W1 w.heap.size 30 #[.int .i64 px, .int .i64 py]) := by rw [← hW1]; exact Bk.new _ _ _
  rw [hW1] at hb0
  have HB := Lib.hid hb0
  rw [hW1]
  clear hb0 hW1
  have x0 : W1.cell? ⟨w.heap.size, 0, none⟩ = some (.int .i64 px) := by rw [HBX.out.cell]; rfl
  have x1 : W1.cell? ⟨w.heap.size, 1, none⟩ = some (.int .i64 py) := by rw [HBX.out.cell]; rfl
  have hk := HK.out _ HB.out
  have k0 := hk.1.1
  have k1 := hk.1.2
  have k2 := hk.2.1
  have k3 := hk.2.2
  clear hk
  refine wp_region_held_drew (S := (fun w' : World => (w'.cell? ⟨w.heap.size, 0, none⟩ = some (.int .i64 px) ∧ w'.cell? ⟨w.heap.size, 1, none⟩ = some (.int .i64 py)) ∧ w'.cell? ⟨b1, 0, none⟩ = some (.int .i64 cx) ∧ w'.cell? ⟨b1, 1, none⟩ = some (.int .i64 cy))) (by kernel_rfl) ?_ ?_
  · exact ⟨⟨x0, x1⟩, k2, k3⟩
  intro hHeld
  refine wpAnyH_take (i := 0) (v := ?_) rfl (by kernel_rfl) (by kernel_rfl) (by kernel_rfl) (fun _ _ _ h => h) (Or.inl ⟨by rfl, ?_⟩) (by assumption) ?_
  rotate_left
  · intro w hSw; (try dsimp only at hSw); go_simp; (try (with_reducible rfl))
  try simp only [List.getElem_toArray, List.getElem_cons_succ, List.getElem_cons_zero, Act.put, List.setIfInBounds_toArray, List.set_cons_zero, List.set_cons_succ]
  refine wpAnyH_take (i := 1) (v := ?_) rfl (by kernel_rfl) (by kernel_rfl) (by kernel_rfl) (fun _ _ _ h => h) (Or.inl ⟨by rfl, ?_⟩) (by assumption) ?_
  rotate_left
  · intro w hSw; (try dsimp only at hSw); go_simp; (try (with_reducible rfl))
  try simp only [List.getElem_toArray, List.getElem_cons_succ, List.getElem_cons_zero, Act.put, List.setIfInBounds_toArray, List.set_cons_zero, List.set_cons_succ]
  refine wpAnyH_take (i := 2) (v := ?_) rfl (by kernel_rfl) (by kernel_rfl) (by kernel_rfl) (fun _ _ _ h => h) (Or.inl ⟨by rfl, ?_⟩) (by assumption) ?_
  rotate_left
  · intro w hSw; (try dsimp only at hSw); go_simp; (try (with_reducible rfl))
  try simp only [List.getElem_toArray, List.getElem_cons_succ, List.getElem_cons_zero, Act.put, List.setIfInBounds_toArray, List.set_cons_zero, List.set_cons_succ]
  refine wpAnyH_take (i := 3) (v := ?_) rfl (by kernel_rfl) (by kernel_rfl) (by kernel_rfl) (fun _ _ _ h => h) (Or.inl ⟨by rfl, ?_⟩) (by assumption) ?_
  rotate_left
  · intro w hSw; (try dsimp only at hSw); go_simp; (try (with_reducible rfl))
  try simp only [List.getElem_toArray, List.getElem_cons_succ, List.getElem_cons_zero, Act.put, List.setIfInBounds_toArray, List.set_cons_zero, List.set_cons_succ]
  refine wpAnyH_take (i := 4) (v := ?_) rfl (by kernel_rfl) (by kernel_rfl) (by kernel_rfl) (fun _ _ _ h => h) (Or.inl ⟨by rfl, ?_⟩) (by assumption) ?_
  rotate_left
  · intro w hSw; (try dsimp only at hSw); go_simp; (try (with_reducible rfl))
  try simp only [List.getElem_toArray, List.getElem_cons_succ, List.getElem_cons_zero, Act.put, List.setIfInBounds_toArray, List.set_cons_zero, List.set_cons_succ]
  refine wpAnyH_take (i := 5) (v := ?_) rfl (by kernel_rfl) (by kernel_rfl) (by kernel_rfl) (fun _ _ _ h => h) (Or.inl ⟨by rfl, ?_⟩) (by assumption) ?_
  rotate_left
  · intro w hSw; (try dsimp only at hSw); go_simp; (try (with_reducible rfl))
  try simp only [List.getElem_toArray, List.getElem_cons_succ, List.getElem_cons_zero, Act.put, List.setIfInBounds_toArray, List.set_cons_zero, List.set_cons_succ]
  refine wpAnyH_take (i := 6) (v := ?_) rfl (by kernel_rfl) (by kernel_rfl) (by kernel_rfl) (fun _ _ _ h => h) (Or.inl ⟨by rfl, ?_⟩) (by assumption) ?_
  rotate_left
  · intro w hSw; (try dsimp only at hSw); go_simp; (try (with_reducible rfl))
  try simp only [List.getElem_toArray, List.getElem_cons_succ, List.getElem_cons_zero, Act.put, List.setIfInBounds_toArray, List.set_cons_zero, List.set_cons_succ]
  refine wpAnyH_take (i := 7) (v := ?_) rfl (by kernel_rfl) (by kernel_rfl) (by kernel_rfl) (fun _ _ _ h => h) (Or.inl ⟨by rfl, ?_⟩) (by assumption) ?_
  rotate_left
  · intro w hSw; (try dsimp only at hSw); go_simp; (try (with_reducible rfl))
  try simp only [List.getElem_toArray, List.getElem_cons_succ, List.getElem_cons_zero, Act.put, List.setIfInBounds_toArray, List.set_cons_zero, List.set_cons_succ]
  refine wpAnyH_take (i := 8) (v := ?_) rfl (by kernel_rfl) (by kernel_rfl) (by kernel_rfl) (fun _ _ _ h => h) (Or.inl ⟨by rfl, ?_⟩) (by assumption) ?_
  rotate_left
  · intro w hSw; (try dsimp only at hSw); go_simp; (try (with_reducible rfl))
  try simp only [List.getElem_toArray, List.getElem_cons_succ, List.getElem_cons_zero, Act.put, List.setIfInBounds_toArray, List.set_cons_zero, List.set_cons_succ]
  refine wpAnyH_take (i := 9) (v := ?_) rfl (by kernel_rfl) (by kernel_rfl) (by kernel_rfl) (fun _ _ _ h => h) (Or.inl ⟨by rfl, ?_⟩) (by assumption) ?_
  rotate_left
  · intro w hSw; (try dsimp only at hSw); go_simp; (try (with_reducible rfl))
  try simp only [List.getElem_toArray, List.getElem_cons_succ, List.getElem_cons_zero, Act.put, List.setIfInBounds_toArray, List.set_cons_zero, List.set_cons_succ]
  refine wpAnyH_take (i := 10) (v := ?_) rfl (by kernel_rfl) (by kernel_rfl) (by kernel_rfl) (fun _ _ _ h => h) (Or.inl ⟨by rfl, ?_⟩) (by assumption) ?_
  rotate_left
  · intro w hSw; (try dsimp only at hSw); go_simp; (try (with_reducible rfl))
  try simp only [List.getElem_toArray, List.getElem_cons_succ, List.getElem_cons_zero, Act.put, List.setIfInBounds_toArray, List.set_cons_zero, List.set_cons_succ]
  refine wpAnyH_take (i := 11) (v := ?_) rfl (by kernel_rfl) (by kernel_rfl) (by kernel_rfl) (fun _ _ _ h => h) (Or.inl ⟨by rfl, ?_⟩) (by assumption) ?_
  rotate_left
  · intro w hSw; (try dsimp only at hSw); go_simp; (try (with_reducible rfl))
  try simp only [List.getElem_toArray, List.getElem_cons_succ, List.getElem_cons_zero, Act.put, List.setIfInBounds_toArray, List.set_cons_zero, List.set_cons_succ]
  refine wpAnyH_done (by kernel_rfl) ?_ _
  obtain ⟨W2, hW2⟩ : ∃ W, W1.drew = W := ⟨_, rfl⟩
  have HB2 : Hid (Below w.heap.size w W2) := Lib.hid (by rw [← hW2]; exact HB.out.drew)
  rw [hW2]
  clear hW2 hHeld k0 k1 k2 k3 x0 x1 HBX HB
  have hk := HK.out _ HB2.out
  have k0 := hk.1.1
  have k1 := hk.1.2
  clear hk HK
  go_wp2_with fail
  refine (CA.out _ W2.heap.size _ (by simp [go_sem])).mono ?_
  rintro e w' ⟨rfl, rfl⟩
  go_wp2
  go_ret
  exact ⟨rfl, HB2.out.alloc HB2.out.size _⟩

set_option maxRecDepth 100000 in
set_option maxHeartbeats 4000000 in
theorem index_mis (p1 p2 : Addr) (A : Option Addr) (n c : Nat) (ps : List (Int × Int)) (b : Nat → Bool) (w : World) (hr : RdP w A n ps) (hn : n ≤ 1000000)
    (hf : ∀ k, k < n → ∀ W, Below w.heap.size w W → Calls Tryd.prog 63 #[.agg #[.int .i64 (ps.getD k (0, 0)).1, .int .i64 (ps.getD k (0, 0)).2], .pointer (some p1), .pointer (some p2)] W fun e w' => e = .returned (.bool (b k)) ∧ Below W.heap.size W w') :
    Calls Tryd.prog 62 #[.slice A n c, .func (.func 63) #[] #[.pointer (some p1), .pointer (some p2)]] w fun e w' => e = .returned (.int .i64 (fstF b n)) ∧ Below w.heap.size w w' := by
  have HR := Lib.hid hr
  have HF := Lib.hid hf
  clear hr hf
  go_enter Tryd.func62, Tryd.ntmps62
  go_wp2
  go_loopw [8] (fun i wr => ∃ k : Nat, k ≤ n ∧ i = .int .i64 (k : Int) ∧ Hid (fstF b k = -1) ∧ Hid (Below w.heap.size w wr)) (fun i _ => n - (intOf i).toNat)
  case atStart => exact ⟨0, Nat.zero_le _, rfl, rfl, Below.refl _ _⟩
  case round =>
    obtain ⟨k, hk, rfl, HI, HB⟩ := hrel
    by_cases hlt : k < n
    · have hkI : (k : Int) < (n : Int) := by omega
      obtain ⟨ad, hA, hadb, hc⟩ := HR.out.2 (by omega)
      subst hA
      have hck := hc k hlt
      have e0 := (HB.out.cell (p := ad.add (k * 2)) (by rw [addBlock]; exact hadb)).trans hck.1
      have e1 := (HB.out.cell (p := (ad.add (k * 2)).add 1) (by rw [addBlock, addBlock]; exact hadb)).trans hck.2
      have C := Lib.hid (HF.out k hlt _ HB.out)
      obtain ⟨px, hpx⟩ : ∃ x, (ps.getD k (0, 0)).1 = x := ⟨_, rfl⟩
      obtain ⟨py, hpy⟩ : ∃ x, (ps.getD k (0, 0)).2 = x := ⟨_, rfl⟩
      obtain ⟨ak, hak⟩ : ∃ x, ad.add (k * 2) = x := ⟨_, rfl⟩
      obtain ⟨ak1, hak1⟩ : ∃ x, ak.add 1 = x := ⟨_, rfl⟩
      have addZk : ak.add 0 = ak := addZ ak
      rw [hpx, hpy] at C
      rw [hak, hpx] at e0
      rw [hak, hak1, hpy] at e1
      clear hpx hpy hck hc
      cases hb : b k with
      | true =>
        rw [hb] at C
        have HV := Lib.hid (fstF_yes HI.out hb n hlt)
        clear hb
        go_wp2_with fail
        refine C.out.mono ?_
        rintro e w' ⟨rfl, hb2⟩
        have HB2 := Lib.hid (HB.out.trans (hb2.mono HB.out.size))
        clear hb2
        go_wp2
        go_ret
        exact ⟨by rw [HV.out]; rfl, HB2.out⟩
      | false =>
        rw [hb] at C
        have HV := Lib.hid (fstF_no HI.out hb)
        clear hb
        go_wp2_with fail
        refine C.out.mono ?_
        rintro e w' ⟨rfl, hb2⟩
        have HB2 := Lib.hid (HB.out.trans (hb2.mono HB.out.size))
        clear hb2
        go_wp2
        go_roundw
        case rel => exact ⟨k + 1, by omega, by go_num, HV.out, HB2.out⟩
        case measure => simp [intOf]; omega
    · obtain rfl : n = k := by omega
      go_wp2
      go_ret
      exact ⟨by rw [HI.out]; rfl, HB.out⟩

set_option maxRecDepth 100000 in
set_option maxHeartbeats 4000000 in
theorem index_far  (A : Option Addr) (n c : Nat) (ps : List (Int × Int)) (b : Nat → Bool) (w : World) (hr : RdP w A n ps) (hn : n ≤ 1000000)
    (hf : ∀ k, k < n → ∀ W, Below w.heap.size w W → Calls Tryd.prog 60 #[.agg #[.int .i64 (ps.getD k (0, 0)).1, .int .i64 (ps.getD k (0, 0)).2]] W fun e w' => e = .returned (.bool (b k)) ∧ Below W.heap.size W w') :
    Calls Tryd.prog 62 #[.slice A n c, .func (.func 60) #[] #[]] w fun e w' => e = .returned (.int .i64 (fstF b n)) ∧ Below w.heap.size w w' := by
  have HR := Lib.hid hr
  have HF := Lib.hid hf
  clear hr hf
  go_enter Tryd.func62, Tryd.ntmps62
  go_wp2
  go_loopw [8] (fun i wr => ∃ k : Nat, k ≤ n ∧ i = .int .i64 (k : Int) ∧ Hid (fstF b k = -1) ∧ Hid (Below w.heap.size w wr)) (fun i _ => n - (intOf i).toNat)
  case atStart => exact ⟨0, Nat.zero_le _, rfl, rfl, Below.refl _ _⟩
  case round =>
    obtain ⟨k, hk, rfl, HI, HB⟩ := hrel
    by_cases hlt : k < n
    · have hkI : (k : Int) < (n : Int) := by omega
      obtain ⟨ad, hA, hadb, hc⟩ := HR.out.2 (by omega)
      subst hA
      have hck := hc k hlt
      have e0 := (HB.out.cell (p := ad.add (k * 2)) (by rw [addBlock]; exact hadb)).trans hck.1
      have e1 := (HB.out.cell (p := (ad.add (k * 2)).add 1) (by rw [addBlock, addBlock]; exact hadb)).trans hck.2
      have C := Lib.hid (HF.out k hlt _ HB.out)
      obtain ⟨px, hpx⟩ : ∃ x, (ps.getD k (0, 0)).1 = x := ⟨_, rfl⟩
      obtain ⟨py, hpy⟩ : ∃ x, (ps.getD k (0, 0)).2 = x := ⟨_, rfl⟩
      obtain ⟨ak, hak⟩ : ∃ x, ad.add (k * 2) = x := ⟨_, rfl⟩
      obtain ⟨ak1, hak1⟩ : ∃ x, ak.add 1 = x := ⟨_, rfl⟩
      have addZk : ak.add 0 = ak := addZ ak
      rw [hpx, hpy] at C
      rw [hak, hpx] at e0
      rw [hak, hak1, hpy] at e1
      clear hpx hpy hck hc
      cases hb : b k with
      | true =>
        rw [hb] at C
        have HV := Lib.hid (fstF_yes HI.out hb n hlt)
        clear hb
        go_wp2_with fail
        refine C.out.mono ?_
        rintro e w' ⟨rfl, hb2⟩
        have HB2 := Lib.hid (HB.out.trans (hb2.mono HB.out.size))
        clear hb2
        go_wp2
        go_ret
        exact ⟨by rw [HV.out]; rfl, HB2.out⟩
      | false =>
        rw [hb] at C
        have HV := Lib.hid (fstF_no HI.out hb)
        clear hb
        go_wp2_with fail
        refine C.out.mono ?_
        rintro e w' ⟨rfl, hb2⟩
        have HB2 := Lib.hid (HB.out.trans (hb2.mono HB.out.size))
        clear hb2
        go_wp2
        go_roundw
        case rel => exact ⟨k + 1, by omega, by go_num, HV.out, HB2.out⟩
        case measure => simp [intOf]; omega
    · obtain rfl : n = k := by omega
      go_wp2
      go_ret
      exact ⟨by rw [HI.out]; rfl, HB.out⟩

set_option maxRecDepth 100000 in
set_option maxHeartbeats 4000000 in
theorem misfit_any (A : Option Addr) (n c : Nat) (rl rh xl xh yl yh : Int) (ps : List (Int × Int)) (cx cy : Int) (w : World) (hr : RdP w A n ps) (hn : n ≤ 1000000)
    (hp : ∀ k, k < n → (-1000 ≤ (ps.getD k (0, 0)).1 ∧ (ps.getD k (0, 0)).1 ≤ 1000) ∧ -1000 ≤ (ps.getD k (0, 0)).2 ∧ (ps.getD k (0, 0)).2 ≤ 1000) (hc : (-1000 ≤ cx ∧ cx ≤ 1000) ∧ -1000 ≤ cy ∧ cy ≤ 1000) (hrr : 0 ≤ rl ∧ rl ≤ 1000 ∧ 0 ≤ rh ∧ rh ≤ 1000) :
    Calls Tryd.prog 41 #[.agg #[.slice A n c, .int .i64 rl, .int .i64 rh, .int .i64 xl, .int .i64 xh, .int .i64 yl, .int .i64 yh], .agg #[.int .i64 cx, .int .i64 cy]] w fun e w' => e = .returned (.tuple #[.int .i64 (misI rl rh ps (cx, cy)), .bool (decide (0 ≤ misI rl rh ps (cx, cy)))]) ∧ Below w.heap.size w w' := by
  obtain ⟨W0, hW0⟩ : ∃ W, (w.alloc (.cells #[.slice A n c, .int .i64 rl, .int .i64 rh, .int .i64 xl, .int .i64 xh, .int .i64 yl, .int .i64 yh] 39)).alloc (.cells #[.int .i64 cx, .int .i64 cy] 30) = W := ⟨_, rfl⟩
  have hb0 : Below w.heap.size w W0 := by rw [← hW0]; exact ((Below.refl _ _).alloc (Nat.le_refl _) _).alloc (by simp) _
  have k0 : Bk W0 w.heap.size 39 #[.slice A n c, .int .i64 rl, .int .i64 rh, .int .i64 xl, .int .i64 xh, .int .i64 yl, .int .i64 yh] := by rw [← hW0]; exact (Bk.new w 39 #[.slice A n c, .int .i64 rl, .int .i64 rh, .int .i64 xl, .int .i64 xh, .int .i64 yl, .int .i64 yh]).alloc _
  have k1 : Bk W0 (w.heap.size + 1) 30 #[.int .i64 cx, .int .i64 cy] := by
    rw [← hW0]
    have := Bk.new (w.alloc (.cells #[.slice A n c, .int .i64 rl, .int .i64 rh, .int .i64 xl, .int .i64 xh, .int .i64 yl, .int .i64 yh] 39)) 30 #[.int .i64 cx, .int .i64 cy]
    simpa using this
  have hmi : misI rl rh ps (cx, cy) = fstF (offB rl rh ps (cx, cy)) n := by unfold misI; rw [hr.1]
  have C := Lib.hid (index_mis ⟨w.heap.size + 1, 0, none⟩ ⟨w.heap.size, 0, none⟩ A n c ps (offB rl rh ps (cx, cy)) W0 (hr.below hb0) hn (fun k hk W hb => mis1_any w.heap.size (w.heap.size + 1) A n c rl rh xl xh yl yh ps cx cy k W (k0.later hb) (k1.later hb) (hp k hk) hc hrr))
  have i0 : W0.cell? ⟨w.heap.size, 0, none⟩ = some (.slice A n c) := by rw [k0.cell]; rfl
  rw [hmi]
  obtain ⟨I, hI⟩ : ∃ z, fstF (offB rl rh ps (cx, cy)) n = z := ⟨_, rfl⟩
  rw [hI] at C ⊢
  have HB := Lib.hid hb0
  clear hr hp hc hrr hmi k0 k1 hI hb0
  go_enter Tryd.func41, Tryd.ntmps41
  go_upto_region 1 with (fail)
  try rw [hW0]
  clear hW0
  go_wp2_with fail
  refine C.out.mono ?_
  rintro e w' ⟨rfl, hb⟩
  have HB2 := Lib.hid (HB.out.trans (hb.mono HB.out.size))
  clear hb
  go_wp2
  go_ret2
  exact ⟨rfl, HB2.out⟩

end Go.Proofs.YtpkjkegcdddimaaDoor

namespace Go.Proofs.YtpkjkegcdddimaaDoor
open Go.RowKit

theorem lit4 (W : World) (b : Nat) (x y z u : Int) (h : W.cell? ⟨b, 0, none⟩ = some (.int .i64 x)) (h1 : W.cell? ⟨b, 1, none⟩ = some (.int .i64 y)) (h2 : W.cell? ⟨b, 2, none⟩ = some (.int .i64 z)) (h3 : W.cell? ⟨b, 3, none⟩ = some (.int .i64 u)) : RdI W (some ⟨b, 0, none⟩) 4 [x, y, z, u] :=
  ⟨rfl, fun _ => ⟨_, rfl, World.block_lt_of_cell? _ _ h, fun j hj => by
    rw [addOff]
    match j, hj with
    | 0, _ => exact h
    | 1, _ => exact h1
    | 2, _ => exact h2
    | 3, _ => exact h3⟩⟩

set_option maxRecDepth 100000 in
set_option maxHeartbeats 4000000 in
theorem far1_any (ps : List (Int × Int)) (k : Nat) (w : World) :
    Calls Tryd.prog 60 #[.agg #[.int .i64 (ps.getD k (0, 0)).1, .int .i64 (ps.getD k (0, 0)).2]] w fun e w' => e = .returned (.bool (!ptB ps k)) ∧ Below w.heap.size w w' := by
  unfold ptB
  obtain ⟨px, hpx⟩ : ∃ x, (ps.getD k (0, 0)).1 = x := ⟨_, rfl⟩
  obtain ⟨py, hpy⟩ : ∃ x, (ps.getD k (0, 0)).2 = x := ⟨_, rfl⟩
  rw [hpx, hpy]
  clear hpx hpy
  have hb0 : Below w.heap.size w (w.alloc (.cells #[.int .i64 px, .int .i64 py] 30)) := (Below.refl _ _).alloc (Nat.le_refl _) _
  have CA := Lib.hid (fun W g c (h : W.cell? ⟨g, 0, none⟩ = some (.int .i64 px)) (h1 : W.cell? ⟨g, 1, none⟩ = some (.int .i64 py)) => areAtMost_any (some ⟨g, 0, none⟩) 2 c [px, py] 1000 W (lit2 W g px py h h1) (by omega) (by omega))
  go_enter Tryd.func60, Tryd.ntmps60
  go_upto_region 1 with (fail)
  obtain ⟨W1, hW1⟩ : ∃ W, w.alloc (.cells #[.int .i64 px, .int .i64 py] 30) = W := ⟨_, rfl⟩
  have HBX : Hid (Bk W1 w.heap.size 30 #[.int .i64 px, .int .i64 py]) := by rw [← hW1]; exact Bk.new _ _ _
  rw [hW1] at hb0
  have HB := Lib.hid hb0
  rw [hW1]
  clear hb0 hW1
  have x0 : W1.cell? ⟨w.heap.size, 0, none⟩ = some (.int .i64 px) := by rw [HBX.out.cell]; rfl
  have x1 : W1.cell? ⟨w.heap.size, 1, none⟩ = some (.int .i64 py) := by rw [HBX.out.cell]; rfl
  go_wp2_with fail
  refine (CA.out _ W1.heap.size _ (by simp [go_sem]) (by simp [go_sem])).mono ?_
  rintro e w' ⟨rfl, rfl⟩
  go_wp2
  go_ret
  exact ⟨rfl, HB.out.alloc HB.out.size _⟩

set_option maxRecDepth 100000 in
set_option maxHeartbeats 4000000 in
theorem contains_far (A : Option Addr) (n c : Nat) (ps : List (Int × Int)) (w : World) (hr : RdP w A n ps) (hn : n ≤ 1000000) :
    Calls Tryd.prog 61 #[.slice A n c, .func (.func 60) #[] #[]] w fun e w' => e = .returned (.bool (decide (0 ≤ fstF (fun i => !ptB ps i) n))) ∧ Below w.heap.size w w' := by
  have C := Lib.hid (index_far A n c ps (fun i => !ptB ps i) w hr hn (fun k _ W _ => far1_any ps k W))
  obtain ⟨I, hI⟩ : ∃ z, fstF (fun i => !ptB ps i) n = z := ⟨_, rfl⟩
  rw [hI] at C ⊢
  clear hr hI
  go_enter Tryd.func61, Tryd.ntmps61
  go_wp2_with fail
  refine C.out.mono ?_
  rintro e w' ⟨rfl, hb⟩
  have HB := Lib.hid hb
  clear hb
  go_wp2
  go_ret
  exact ⟨rfl, HB.out⟩

set_option maxRecDepth 100000 in
set_option maxHeartbeats 4000000 in
theorem checkCircle_any (A : Option Addr) (n c : Nat) (rl rh xl xh yl yh : Int) (ps : List (Int × Int)) (w : World) (hr : RdP w A n ps) (hn : n ≤ 1000000) :
    Calls Tryd.prog 40 #[.agg #[.slice A n c, .int .i64 rl, .int .i64 rh, .int .i64 xl, .int .i64 xh, .int .i64 yl, .int .i64 yh]] w fun e w' => e = .returned (.int .i64 (circE ps rl rh xl xh yl yh)) ∧ Below w.heap.size w w' := by
  have hE : circE ps rl rh xl xh yl yh = if n = 0 then 10 else if 20 < n then 8 else if endsB ps xl xh yl yh = true ∧ fromB 0 1000 [rl, rh] = true then (if rh < rl ∨ xh < xl ∨ yh < yl then 9 else if 30 < xh - xl + 1 ∨ 30 < yh - yl + 1 then 8 else 0) else 2 := by unfold circE; rw [hr.1]
  have hends : endsB ps xl xh yl yh = (decide (fstF (fun i => !ptB ps i) n = -1) && fromB (-1000) 1000 [xl, xh, yl, yh]) := by unfold endsB; rw [hr.1]
  have hbI := fstF_bd (fun i => !ptB ps i) n
  rw [hE, hends]
  obtain ⟨E, hEE⟩ : ∃ E, (if n = 0 then 10 else if 20 < n then 8 else if (decide (fstF (fun i => !ptB ps i) n = -1) && fromB (-1000) 1000 [xl, xh, yl, yh]) = true ∧ fromB 0 1000 [rl, rh] = true then (if rh < rl ∨ xh < xl ∨ yh < yl then 9 else if 30 < xh - xl + 1 ∨ 30 < yh - yl + 1 then 8 else 0) else 2 : Int) = E := ⟨_, rfl⟩
  rw [hEE]
  have hb0 : Below w.heap.size w (w.alloc (.cells #[.slice A n c, .int .i64 rl, .int .i64 rh, .int .i64 xl, .int .i64 xh, .int .i64 yl, .int .i64 yh] 39)) := (Below.refl _ _).alloc (Nat.le_refl _) _
  have CC := Lib.hid (fun W (h : RdP W A n ps) => contains_far A n c ps W h hn)
  have CA1 := Lib.hid (fun W g c (h : W.cell? ⟨g, 0, none⟩ = some (.int .i64 rl)) (h1 : W.cell? ⟨g, 1, none⟩ = some (.int .i64 rh)) => areFrom_any (some ⟨g, 0, none⟩) 2 c [rl, rh] 0 1000 W (lit2 W g rl rh h h1) (by omega))
  have CA2 := Lib.hid (fun W g c h0 h1 h2 h3 => areAtMost_any (some ⟨g, 0, none⟩) 4 c [xl, xh, yl, yh] 1000 W (lit4 W g xl xh yl yh h0 h1 h2 h3) (by omega) (by omega))
  obtain ⟨I, hI⟩ : ∃ z, fstF (fun i => !ptB ps i) n = z := ⟨_, rfl⟩
  rw [hI] at CC hbI hEE
  have HE := Lib.hid hEE
  have HRP := Lib.hid (hr.below hb0)
  clear hE hends hI hr hEE
  go_enter Tryd.func40, Tryd.ntmps40
  go_upto_region 2 with (fail)
  obtain ⟨W1, hW1⟩ : ∃ W, w.alloc (.cells #[.slice A n c, .int .i64 rl, .int .i64 rh, .int .i64 xl, .int .i64 xh, .int .i64 yl, .int .i64 yh] 39) = W := ⟨_, rfl⟩
  have HBX : Hid (Bk W1 w.heap.size 39 #[.slice A n c, .int .i64 rl, .int .i64 rh, .int .i64 xl, .int .i64 xh, .int .i64 yl, .int .i64 yh]) := by rw [← hW1]; exact Bk.new _ _ _
  have hsz : W1.heap.size = w.heap.size + 1 := by rw [← hW1]; simp
  rw [hW1] at hb0 HRP
  have HB := Lib.hid hb0
  rw [hW1]
  have HBs : Hid (Below (w.heap.size + 1) W1 W1) := Lib.hid (Below.refl _ _)
  have HK : Hid (∀ W, Below (w.heap.size + 1) W1 W → (W.cell? ⟨w.heap.size, 0, none⟩ = some (.slice A n c) ∧ W.cell? ⟨w.heap.size, 1, none⟩ = some (.int .i64 rl) ∧ W.cell? ⟨w.heap.size, 2, none⟩ = some (.int .i64 rh) ∧ W.cell? ⟨w.heap.size, 3, none⟩ = some (.int .i64 xl) ∧ W.cell? ⟨w.heap.size, 4, none⟩ = some (.int .i64 xh) ∧ W.cell? ⟨w.heap.size, 5, none⟩ = some (.int .i64 yl) ∧ W.cell? ⟨w.heap.size, 6, none⟩ = some (.int .i64 yh))) := fun W hb => by
    have h := HBX.out.below hb (Nat.lt_succ_self _)
    exact ⟨by rw [h.cell]; rfl, by rw [h.cell]; rfl, by rw [h.cell]; rfl, by rw [h.cell]; rfl, by rw [h.cell]; rfl, by rw [h.cell]; rfl, by rw [h.cell]; rfl⟩
  have HSZ := Lib.hid hsz
  clear hb0 hW1 HBX hsz
  obtain ⟨c0, c1, c2, c3, c4, c5, c6⟩ := HK.out _ HBs.out
  by_cases h0 : n = 0
  · subst h0
    go_wp2
    go_ret
    exact ⟨by rw [← HE.out, if_pos trivial]; rfl, HB.out⟩
  · have h0I : ((n : Int) == 0) = false := by simp; omega
    have h0J : ¬ (n : Int) = 0 := by omega
    by_cases h1 : 20 < n
    · have h1I : (20 : Int) < (n : Int) := by omega
      go_wp2
      go_ret
      exact ⟨by rw [← HE.out, if_neg h0, if_pos h1]; rfl, HB.out⟩
    · have h1I : ¬ (20 : Int) < (n : Int) := by omega
      go_wp2_with fail
      refine (CC.out _ HRP.out).mono ?_
      rintro e w2 ⟨rfl, hb⟩
      have HB2 := Lib.hid (HB.out.trans (hb.mono HB.out.size))
      have HBs2 : Hid (Below (w.heap.size + 1) W1 w2) := Lib.hid (by rw [HSZ.out] at hb; exact hb)
      clear hb HBs c0 c1 c2 c3 c4 c5 c6
      obtain ⟨c0, c1, c2, c3, c4, c5, c6⟩ := HK.out _ HBs2.out
      by_cases hIz : 0 ≤ I
      · skip
        go_wp2
        go_ret
        exact ⟨by rw [← HE.out, if_neg h0, if_neg h1, if_neg (fun h => by have := h.1; rw [Bool.and_eq_true, decide_eq_true_eq] at this; omega)]; rfl, HB2.out⟩
      · skip
        cases hf1 : fromB 0 1000 [rl, rh] with
        | false =>
          rw [hf1] at CA1
          have HF1 := Lib.hid hf1
          clear hf1
          go_wp2_with fail
          refine (CA1.out _ w2.heap.size _ (by simp [go_sem]) (by simp [go_sem])).mono ?_
          rintro e w' ⟨rfl, rfl⟩
          obtain ⟨W3, hW3⟩ : ∃ W, w2.alloc (.cells #[.int .i64 rl, .int .i64 rh] 3) = W := ⟨_, rfl⟩
          have HB3 : Hid (Below w.heap.size w W3) := Lib.hid (by rw [← hW3]; exact HB2.out.alloc HB2.out.size _)
          have HBs3 : Hid (Below (w.heap.size + 1) W1 W3) := Lib.hid (by rw [← hW3]; exact HBs2.out.alloc (by rw [← HSZ.out]; exact HBs2.out.size) _)
          rw [hW3]
          clear hW3 HBs2 HB2 c0 c1 c2 c3 c4 c5 c6
          obtain ⟨c0, c1, c2, c3, c4, c5, c6⟩ := HK.out _ HBs3.out
          go_wp2
          go_ret
          exact ⟨by rw [← HE.out, if_neg h0, if_neg h1, if_neg (fun h => by have := h.2; rw [HF1.out] at this; exact absurd this (by decide))]; rfl, HB3.out⟩
        | true =>
          rw [hf1] at CA1
          have HF1 := Lib.hid hf1
          clear hf1
          go_wp2_with fail
          refine (CA1.out _ w2.heap.size _ (by simp [go_sem]) (by simp [go_sem])).mono ?_
          rintro e w' ⟨rfl, rfl⟩
          obtain ⟨W3, hW3⟩ : ∃ W, w2.alloc (.cells #[.int .i64 rl, .int .i64 rh] 3) = W := ⟨_, rfl⟩
          have HB3 : Hid (Below w.heap.size w W3) := Lib.hid (by rw [← hW3]; exact HB2.out.alloc HB2.out.size _)
          have HBs3 : Hid (Below (w.heap.size + 1) W1 W3) := Lib.hid (by rw [← hW3]; exact HBs2.out.alloc (by rw [← HSZ.out]; exact HBs2.out.size) _)
          rw [hW3]
          clear hW3 HBs2 HB2 c0 c1 c2 c3 c4 c5 c6
          obtain ⟨c0, c1, c2, c3, c4, c5, c6⟩ := HK.out _ HBs3.out
          cases hf2 : fromB (-1000) 1000 [xl, xh, yl, yh] with
          | false =>
            rw [hf2] at CA2
            have HF2 := Lib.hid hf2
            clear hf2
            go_wp2_with fail
            refine (CA2.out _ W3.heap.size _ (by simp [go_sem]) (by simp [go_sem]) (by simp [go_sem]) (by simp [go_sem])).mono ?_
            rintro e w' ⟨rfl, rfl⟩
            obtain ⟨W4, hW4⟩ : ∃ W, W3.alloc (.cells #[.int .i64 xl, .int .i64 xh, .int .i64 yl, .int .i64 yh] 3) = W := ⟨_, rfl⟩
            have HB4 : Hid (Below w.heap.size w W4) := Lib.hid (by rw [← hW4]; exact HB3.out.alloc HB3.out.size _)
            have HBs4 : Hid (Below (w.heap.size + 1) W1 W4) := Lib.hid (by rw [← hW4]; exact HBs3.out.alloc (by rw [← HSZ.out]; exact HBs3.out.size) _)
            rw [hW4]
            clear hW4 HBs3 HB3 c0 c1 c2 c3 c4 c5 c6
            obtain ⟨c0, c1, c2, c3, c4, c5, c6⟩ := HK.out _ HBs4.out
            go_wp2
            go_ret
            exact ⟨by rw [← HE.out, if_neg h0, if_neg h1, if_neg (fun h => by have := h.1; rw [Bool.and_eq_true, HF2.out] at this; exact absurd this.2 (by decide))]; rfl, HB4.out⟩
          | true =>
            rw [hf2] at CA2
            have hbb := fromB_four.1 hf2
            have HF2 := Lib.hid hf2
            clear hf2
            go_wp2_with fail
            refine (CA2.out _ W3.heap.size _ (by simp [go_sem]) (by simp [go_sem]) (by simp [go_sem]) (by simp [go_sem])).mono ?_
            rintro e w' ⟨rfl, rfl⟩
            obtain ⟨W4, hW4⟩ : ∃ W, W3.alloc (.cells #[.int .i64 xl, .int .i64 xh, .int .i64 yl, .int .i64 yh] 3) = W := ⟨_, rfl⟩
            have HB4 : Hid (Below w.heap.size w W4) := Lib.hid (by rw [← hW4]; exact HB3.out.alloc HB3.out.size _)
            have HBs4 : Hid (Below (w.heap.size + 1) W1 W4) := Lib.hid (by rw [← hW4]; exact HBs3.out.alloc (by rw [← HSZ.out]; exact HBs3.out.size) _)
            rw [hW4]
            clear hW4 HBs3 HB3 c0 c1 c2 c3 c4 c5 c6
            obtain ⟨c0, c1, c2, c3, c4, c5, c6⟩ := HK.out _ HBs4.out
            by_cases h3a : rh < rl
            · skip
              go_wp2
              go_ret
              exact ⟨by rw [← HE.out, if_neg h0, if_neg h1, if_pos ⟨by rw [Bool.and_eq_true, decide_eq_true_eq]; exact ⟨by omega, HF2.out⟩, HF1.out⟩, if_pos (.inl h3a)]; rfl, HB4.out⟩
            · skip
              by_cases h3b : xh < xl
              · skip
                go_wp2
                go_ret
                exact ⟨by rw [← HE.out, if_neg h0, if_neg h1, if_pos ⟨by rw [Bool.and_eq_true, decide_eq_true_eq]; exact ⟨by omega, HF2.out⟩, HF1.out⟩, if_pos (.inr (.inl h3b))]; rfl, HB4.out⟩
              · skip
                by_cases h3c : yh < yl
                · skip
                  go_wp2
                  go_ret
                  exact ⟨by rw [← HE.out, if_neg h0, if_neg h1, if_pos ⟨by rw [Bool.and_eq_true, decide_eq_true_eq]; exact ⟨by omega, HF2.out⟩, HF1.out⟩, if_pos (.inr (.inr h3c))]; rfl, HB4.out⟩
                · skip
                  have hw1 : IntKind.i64.wrap (xh - xl) = xh - xl := IntWalk.i64_in _ (by omega)
                  have hw2 : IntKind.i64.wrap (yh - yl) = yh - yl := IntWalk.i64_in _ (by omega)
                  have hw3 : IntKind.i64.wrap (xh - xl + 1) = xh - xl + 1 := IntWalk.i64_in _ (by omega)
                  have hw4 : IntKind.i64.wrap (yh - yl + 1) = yh - yl + 1 := IntWalk.i64_in _ (by omega)
                  clear hbb
                  by_cases h4a : 30 < xh - xl + 1
                  · skip
                    go_wp2
                    go_ret
                    exact ⟨by rw [← HE.out, if_neg h0, if_neg h1, if_pos ⟨by rw [Bool.and_eq_true, decide_eq_true_eq]; exact ⟨by omega, HF2.out⟩, HF1.out⟩, if_neg (by omega), if_pos (.inl h4a)]; rfl, HB4.out⟩
                  · by_cases h4b : 30 < yh - yl + 1
                    · skip
                      go_wp2
                      go_ret
                      exact ⟨by rw [← HE.out, if_neg h0, if_neg h1, if_pos ⟨by rw [Bool.and_eq_true, decide_eq_true_eq]; exact ⟨by omega, HF2.out⟩, HF1.out⟩, if_neg (by omega), if_pos (.inr h4b)]; rfl, HB4.out⟩
                    · skip
                      go_wp2
                      go_ret
                      exact ⟨by rw [← HE.out, if_neg h0, if_neg h1, if_pos ⟨by rw [Bool.and_eq_true, decide_eq_true_eq]; exact ⟨by omega, HF2.out⟩, HF1.out⟩, if_neg (by omega), if_neg (by omega)]; rfl, HB4.out⟩

end Go.Proofs.YtpkjkegcdddimaaDoor

namespace Go.Proofs.YtpkjkegcdddimaaDoor
open Go.RowKit

theorem ptInfoZ : (Tryd.prog.info? 30).map (fun i => (i.zero, i.size, i.bytes)) = some (some (.agg #[.int .i64 0, .int .i64 0]), 2, 16) := by kernel_rfl

set_option maxRecDepth 100000 in
set_option maxHeartbeats 4000000 in
theorem copyCircle_any (A : Option Addr) (n c : Nat) (rl rh xl xh yl yh : Int) (ps : List (Int × Int)) (w : World) (hA : A = none → n = 0 ∧ c = 0) (hr : RdP w A n ps) (hn : n ≤ 1000000) :
    Calls Tryd.prog 13 #[.agg #[.slice A n c, .int .i64 rl, .int .i64 rh, .int .i64 xl, .int .i64 xh, .int .i64 yl, .int .i64 yh]] w fun e w' => (∃ g cap, e = .returned (.agg #[.slice (some ⟨g, 0, none⟩) n cap, .int .i64 rl, .int .i64 rh, .int .i64 xl, .int .i64 xh, .int .i64 yl, .int .i64 yh]) ∧ RdR w' g n ps) ∧ Below w.heap.size w w' := by
  obtain ⟨W0, hW0⟩ : ∃ W, (w.alloc (.cells #[.slice A n c, .int .i64 rl, .int .i64 rh, .int .i64 xl, .int .i64 xh, .int .i64 yl, .int .i64 yh] 39)).alloc (.cells #[.slice none 0 0, .int .i64 0, .int .i64 0, .int .i64 0, .int .i64 0, .int .i64 0, .int .i64 0] 39) = W := ⟨_, rfl⟩
  have hb0 : Below w.heap.size w W0 := by rw [← hW0]; exact ((Below.refl _ _).alloc (Nat.le_refl _) _).alloc (by simp) _
  have k0 : Bk W0 w.heap.size 39 #[.slice A n c, .int .i64 rl, .int .i64 rh, .int .i64 xl, .int .i64 xh, .int .i64 yl, .int .i64 yh] := by rw [← hW0]; exact (Bk.new w 39 #[.slice A n c, .int .i64 rl, .int .i64 rh, .int .i64 xl, .int .i64 xh, .int .i64 yl, .int .i64 yh]).alloc _
  have k1 : Bk W0 (w.heap.size + 1) 39 #[.slice none 0 0, .int .i64 0, .int .i64 0, .int .i64 0, .int .i64 0, .int .i64 0, .int .i64 0] := by
    rw [← hW0]
    have := Bk.new (w.alloc (.cells #[.slice A n c, .int .i64 rl, .int .i64 rh, .int .i64 xl, .int .i64 xh, .int .i64 yl, .int .i64 yh] 39)) 39 #[.slice none 0 0, .int .i64 0, .int .i64 0, .int .i64 0, .int .i64 0, .int .i64 0, .int .i64 0]
    simpa using this
  have hsz : W0.heap.size = w.heap.size + 2 := by rw [← hW0]; simp
  obtain ⟨W1, hW1⟩ : ∃ W, W0.alloc (.cells #[] 30) = W := ⟨_, rfl⟩
  have hb1 : Below w.heap.size w W1 := by rw [← hW1]; exact hb0.alloc (by omega) _
  have ho : Hid (W1.ownsRow W0.heap.size 30 2 (.slice (some ⟨W0.heap.size, 0, none⟩) 0 0) 0 ([] : List Value)) := by rw [← hW1]; exact World.ownsRow_lit W0 #[] 0 (Nat.le_refl _) (by unfold maxLen; omega) rfl
  have HSZ := Lib.hid hsz
  have hs1 : W1.heap.size = W0.heap.size + 1 := by rw [← hW1]; simp
  have HS1 := Lib.hid hs1
  have K0 : Hid (Bk W1 w.heap.size 39 #[.slice A n c, .int .i64 rl, .int .i64 rh, .int .i64 xl, .int .i64 xh, .int .i64 yl, .int .i64 yh]) := Lib.hid (by rw [← hW1]; exact k0.alloc _)
  have K1 : Hid (Bk W1 (w.heap.size + 1) 39 #[.slice none 0 0, .int .i64 0, .int .i64 0, .int .i64 0, .int .i64 0, .int .i64 0, .int .i64 0]) := Lib.hid (by rw [← hW1]; exact k1.alloc _)
  have HB1 := Lib.hid hb1
  have HR1 := Lib.hid (hr.below hb1)
  obtain ⟨i0, hi, hz0, hz1, hz2⟩ := info_parts ptInfoZ
  have e0 : W1.cell? ⟨w.heap.size, 0, none⟩ = some (.slice A n c) := by rw [K0.out.cell]; rfl
  clear hr hb0 k0 k1 hsz hs1 hb1
  cases A with
  | none =>
    obtain ⟨rfl, rfl⟩ := hA rfl
    have hl : ps = [] := List.eq_nil_of_length_eq_zero HR1.out.1
    subst hl
    clear hA
    obtain ⟨g, hg⟩ : ∃ g, W0.heap.size = g := ⟨_, rfl⟩
    have HGE : Hid (w.heap.size + 2 ≤ g) := Lib.hid (by have := HSZ.out; omega)
    have o2 : Hid (RdR W1 g 0 []) := Lib.hid (by rw [← hg]; exact rdR_of_own ho.out rfl)
    have B2 := HB1
    rw [hg] at ho
    clear e0
    have K2 : Hid (Bk W1 w.heap.size 39 #[.slice none 0 0, .int .i64 rl, .int .i64 rh, .int .i64 xl, .int .i64 xh, .int .i64 yl, .int .i64 yh]) := Lib.hid (K0.out)
    have K3 : Hid (Bk W1 (w.heap.size + 1) 39 #[.slice none 0 0, .int .i64 0, .int .i64 0, .int .i64 0, .int .i64 0, .int .i64 0, .int .i64 0]) := Lib.hid (K1.out)
    obtain ⟨W3, hW3⟩ : ∃ W, W1.setCell ⟨w.heap.size, 0, none⟩ (.slice (some ⟨g, 0, none⟩) 0 0) = W := ⟨_, rfl⟩
    have K4 : Hid (Bk W3 w.heap.size 39 #[.slice (some ⟨g, 0, none⟩) 0 0, .int .i64 rl, .int .i64 rh, .int .i64 xl, .int .i64 xh, .int .i64 yl, .int .i64 yh]) := Lib.hid (by rw [← hW3]; exact K2.out.set_ 0 _)
    have K5 : Hid (Bk W3 (w.heap.size + 1) 39 #[.slice none 0 0, .int .i64 0, .int .i64 0, .int .i64 0, .int .i64 0, .int .i64 0, .int .i64 0]) := Lib.hid (by rw [← hW3]; exact K3.out.far _ (by show w.heap.size + 1 ≠ w.heap.size; omega) _)
    have B3 : Hid (Below w.heap.size w W3) := Lib.hid (by rw [← hW3]; exact B2.out.setCell (Nat.le_refl _) _)
    have O3 : Hid (RdR W3 g 0 []) := Lib.hid (by
      rw [← hW3]
      refine ⟨o2.out.1, fun h0 => by have := o2.out.2.1 h0; simpa using this, fun j hj => ?_⟩
      have hne : g ≠ w.heap.size := by have := HGE.out; omega
      exact ⟨(World.cell?_setCell_other _ _ _ _ (by intro e; injection e; omega)).trans (o2.out.2.2 j hj).1, (World.cell?_setCell_other _ _ _ _ (by intro e; injection e; omega)).trans (o2.out.2.2 j hj).2⟩)
    have c0 : W1.cell? ⟨w.heap.size, 0, none⟩ = some (.slice none 0 0) := by rw [K2.out.cell]; rfl
    have f0 : W1.frozen? ⟨w.heap.size, 0, none⟩ = false := K2.out.frozen 0
    have d0 : W3.cell? ⟨w.heap.size, 0, none⟩ = some (.slice (some ⟨g, 0, none⟩) 0 0) := by rw [K4.out.cell]; rfl
    have d1 : W3.cell? ⟨w.heap.size, 1, none⟩ = some (.int .i64 rl) := by rw [K4.out.cell]; rfl
    have d2 : W3.cell? ⟨w.heap.size, 2, none⟩ = some (.int .i64 rh) := by rw [K4.out.cell]; rfl
    have d3 : W3.cell? ⟨w.heap.size, 3, none⟩ = some (.int .i64 xl) := by rw [K4.out.cell]; rfl
    have d4 : W3.cell? ⟨w.heap.size, 4, none⟩ = some (.int .i64 xh) := by rw [K4.out.cell]; rfl
    have d5 : W3.cell? ⟨w.heap.size, 5, none⟩ = some (.int .i64 yl) := by rw [K4.out.cell]; rfl
    have d6 : W3.cell? ⟨w.heap.size, 6, none⟩ = some (.int .i64 yh) := by rw [K4.out.cell]; rfl
    have H5 : Hid (Bk (W3.setRow (w.heap.size + 1) #[.slice (some ⟨g, 0, none⟩) 0 0, .int .i64 rl, .int .i64 rh, .int .i64 xl, .int .i64 xh, .int .i64 yl, .int .i64 yh]) (w.heap.size + 1) 39 #[.slice (some ⟨g, 0, none⟩) 0 0, .int .i64 rl, .int .i64 rh, .int .i64 xl, .int .i64 xh, .int .i64 yl, .int .i64 yh]) := setRow_heap W3 (w.heap.size + 1) _ #[.slice (some ⟨g, 0, none⟩) 0 0, .int .i64 rl, .int .i64 rh, .int .i64 xl, .int .i64 xh, .int .i64 yl, .int .i64 yh] _ _ K5.out
    have B5 := Lib.hid (below_setRow B3.out (by omega : w.heap.size ≤ w.heap.size + 1) #[.slice (some ⟨g, 0, none⟩) 0 0, .int .i64 rl, .int .i64 rh, .int .i64 xl, .int .i64 xh, .int .i64 yl, .int .i64 yh])
    have O5 : Hid (RdR (W3.setRow (w.heap.size + 1) #[.slice (some ⟨g, 0, none⟩) 0 0, .int .i64 rl, .int .i64 rh, .int .i64 xl, .int .i64 xh, .int .i64 yl, .int .i64 yh]) g 0 []) := Lib.hid (by
      have hne : g ≠ w.heap.size + 1 := by have := HGE.out; omega
      refine ⟨O3.out.1, fun h0 => by rw [setRow_size]; exact O3.out.2.1 h0, fun j hj => ?_⟩
      exact ⟨(cell_setRow_other _ _ _ ⟨g, j * 2, none⟩ hne).trans (O3.out.2.2 j hj).1, (cell_setRow_other _ _ _ ⟨g, j * 2 + 1, none⟩ hne).trans (O3.out.2.2 j hj).2⟩)
    have hI : Hid ((Tryd.prog.info? 39).map (·.size) = some (#[.slice (some ⟨g, 0, none⟩) 0 0, .int .i64 rl, .int .i64 rh, .int .i64 xl, .int .i64 xh, .int .i64 yl, .int .i64 yh] : Array Value).size) := Lib.hid (by kernel_rfl)
    have hS : Hid ((#[.slice none 0 0, .int .i64 0, .int .i64 0, .int .i64 0, .int .i64 0, .int .i64 0, .int .i64 0] : Array Value).size = (#[.slice (some ⟨g, 0, none⟩) 0 0, .int .i64 rl, .int .i64 rh, .int .i64 xl, .int .i64 xh, .int .i64 yl, .int .i64 yh] : Array Value).size) := Lib.hid rfl
    have hO : Hid ((#[.slice (some ⟨g, 0, none⟩) 0 0, .int .i64 rl, .int .i64 rh, .int .i64 xl, .int .i64 xh, .int .i64 yl, .int .i64 yh] : Array Value).all (·.oneCell') = true) := Lib.hid (by simp [Value.oneCell'])
    go_enter Tryd.func13, Tryd.ntmps13
    go_wp2_with (first | (at_builtin; refine wpList_append_own_none rfl (.tmp 3) (.tmp 5) 35 rfl g 30 i0 2 Tryd.underlying35 hi _ _ _ rfl ho.out rfl ?_) | (with_reducible refine wpList_store_row rfl 39 (.tmp 2) (.tmp 8) rfl (w.heap.size + 1) #[.slice (some ⟨g, 0, none⟩) 0 0, .int .i64 rl, .int .i64 rh, .int .i64 xl, .int .i64 xh, .int .i64 yl, .int .i64 yh] rfl rfl 39 #[.slice none 0 0, .int .i64 0, .int .i64 0, .int .i64 0, .int .i64 0, .int .i64 0, .int .i64 0] K5.out.heap hI.out hS.out hO.out ?_))
    refine bodyPost_ret (v := .agg #[.slice (some ⟨g, 0, none⟩) 0 0, .int .i64 rl, .int .i64 rh, .int .i64 xl, .int .i64 xh, .int .i64 yl, .int .i64 yh]) ?_ rfl ⟨⟨_, _, rfl, O5.out⟩, B5.out⟩
    exact results_cell_row (fn := Tryd.f13) rfl _ _ (w.heap.size + 1) 39 #[.slice (some ⟨g, 0, none⟩) 0 0, .int .i64 rl, .int .i64 rh, .int .i64 xl, .int .i64 xh, .int .i64 yl, .int .i64 yh] (0, 0) _ rfl H5.out Tryd.underlying39 rfl (by kernel_rfl)
  | some ad =>
    clear hA
    have hlen : Hid ((pairCells ps).length = n * 2) := by show _ = _; rw [pairCells_length, HR1.out.1]
    have hsrc : Hid (∀ j u, (pairCells ps)[j]? = some u → W1.cell? (ad.add j) = some u) := by
      intro j u hu
      have hj : j < (pairCells ps).length := (List.getElem?_eq_some_iff.1 hu).1
      rw [hlen.out] at hj
      have hl := HR1.out.1
      obtain ⟨ad', ha, hlt, hc⟩ := HR1.out.2 (by omega)
      obtain rfl := Option.some.inj ha
      obtain ⟨h1, h2⟩ := hc (j / 2) (by omega)
      obtain ⟨p1, p2⟩ := pairCells_at ps (j / 2) (by omega)
      rcases (by omega : j = j / 2 * 2 ∨ j = j / 2 * 2 + 1) with e | e
      · obtain ⟨q, hq⟩ : ∃ q, j / 2 = q := ⟨_, rfl⟩
        rw [hq] at h1 h2 p1 p2 e
        subst e
        rw [p1] at hu
        rw [h1]; exact hu
      · obtain ⟨q, hq⟩ : ∃ q, j / 2 = q := ⟨_, rfl⟩
        rw [hq] at h1 h2 p1 p2 e
        subst e
        rw [p2] at hu
        rw [Deep.add_add] at h2
        rw [h2]; exact hu
    have hone : Hid (∀ u ∈ pairCells ps, u.oneCell' = true) := pairCells_one ps
    obtain ⟨news, hnews⟩ : ∃ news, pairCells ps = news := ⟨_, rfl⟩
    rw [hnews] at hlen hsrc hone
    have HNW := Lib.hid hnews
    clear hnews
    go_enter Tryd.func13, Tryd.ntmps13
    go_wp2_with (at_builtin; refine wpList_append_own _ rfl (.tmp 3) (.tmp 5) 35 rfl W0.heap.size 30 i0 _ 2 16 Tryd.underlying35 hi hz0 hz1 hz2 rfl (by decide) _ _ _ rfl ho.out ad n c news rfl hlen.out hsrc.out hone.out (by unfold maxLen; omega) (by omega) (by have := HS1.out; omega) ?_)
    intro v w2 ho2 hg2 hnil
    have b2 : Below w.heap.size w w2 := HB1.out.grown hg2 (by have := HS1.out; have := HSZ.out; omega) (fun g hg => by have := (ho.out.lt g hg).1; have := HSZ.out; omega)
    have hv : ∃ g cap, v = .slice (some ⟨g, 0, none⟩) n cap ∧ W0.heap.size ≤ g := by
      have h2 := ho2.2
      rcases h2 with ⟨e, h0⟩ | ⟨g, cap, cur, e, h3, _⟩
      · exact absurd e hnil
      · exact ⟨g, cap, by rw [e], h3⟩
    obtain ⟨g, cap, rfl, hgg⟩ := hv
    have HGE : Hid (w.heap.size + 2 ≤ g) := Lib.hid (by have := HSZ.out; omega)
    have o2 : Hid (RdR w2 g n ps) := by
      refine rdR_of_own (base := W0.heap.size) (t := 30) (cap := cap) ?_ HR1.out.1
      rw [HNW.out]
      simpa using ho2
    have B2 := Lib.hid b2
    have Q0 : Hid (Bk w2 w.heap.size 39 #[.slice (some ad) n c, .int .i64 rl, .int .i64 rh, .int .i64 xl, .int .i64 xh, .int .i64 yl, .int .i64 yh]) := Lib.hid (K0.out.grown hg2 (fun e => by have := (ho.out.lt _ e.symm).1; have := HSZ.out; omega))
    have Q1 : Hid (Bk w2 (w.heap.size + 1) 39 #[.slice none 0 0, .int .i64 0, .int .i64 0, .int .i64 0, .int .i64 0, .int .i64 0, .int .i64 0]) := Lib.hid (K1.out.grown hg2 (fun e => by have := (ho.out.lt _ e.symm).1; have := HSZ.out; omega))
    clear ho2 hg2 b2 hnil ho e0 hsrc hone
    have K2 : Hid (Bk w2 w.heap.size 39 #[.slice (some ad) n c, .int .i64 rl, .int .i64 rh, .int .i64 xl, .int .i64 xh, .int .i64 yl, .int .i64 yh]) := Lib.hid (Q0.out)
    have K3 : Hid (Bk w2 (w.heap.size + 1) 39 #[.slice none 0 0, .int .i64 0, .int .i64 0, .int .i64 0, .int .i64 0, .int .i64 0, .int .i64 0]) := Lib.hid (Q1.out)
    obtain ⟨W3, hW3⟩ : ∃ W, w2.setCell ⟨w.heap.size, 0, none⟩ (.slice (some ⟨g, 0, none⟩) n cap) = W := ⟨_, rfl⟩
    have K4 : Hid (Bk W3 w.heap.size 39 #[.slice (some ⟨g, 0, none⟩) n cap, .int .i64 rl, .int .i64 rh, .int .i64 xl, .int .i64 xh, .int .i64 yl, .int .i64 yh]) := Lib.hid (by rw [← hW3]; exact K2.out.set_ 0 _)
    have K5 : Hid (Bk W3 (w.heap.size + 1) 39 #[.slice none 0 0, .int .i64 0, .int .i64 0, .int .i64 0, .int .i64 0, .int .i64 0, .int .i64 0]) := Lib.hid (by rw [← hW3]; exact K3.out.far _ (by show w.heap.size + 1 ≠ w.heap.size; omega) _)
    have B3 : Hid (Below w.heap.size w W3) := Lib.hid (by rw [← hW3]; exact B2.out.setCell (Nat.le_refl _) _)
    have O3 : Hid (RdR W3 g n ps) := Lib.hid (by
      rw [← hW3]
      refine ⟨o2.out.1, fun h0 => by have := o2.out.2.1 h0; simpa using this, fun j hj => ?_⟩
      have hne : g ≠ w.heap.size := by have := HGE.out; omega
      exact ⟨(World.cell?_setCell_other _ _ _ _ (by intro e; injection e; omega)).trans (o2.out.2.2 j hj).1, (World.cell?_setCell_other _ _ _ _ (by intro e; injection e; omega)).trans (o2.out.2.2 j hj).2⟩)
    have c0 : w2.cell? ⟨w.heap.size, 0, none⟩ = some (.slice (some ad) n c) := by rw [K2.out.cell]; rfl
    have f0 : w2.frozen? ⟨w.heap.size, 0, none⟩ = false := K2.out.frozen 0
    have d0 : W3.cell? ⟨w.heap.size, 0, none⟩ = some (.slice (some ⟨g, 0, none⟩) n cap) := by rw [K4.out.cell]; rfl
    have d1 : W3.cell? ⟨w.heap.size, 1, none⟩ = some (.int .i64 rl) := by rw [K4.out.cell]; rfl
    have d2 : W3.cell? ⟨w.heap.size, 2, none⟩ = some (.int .i64 rh) := by rw [K4.out.cell]; rfl
    have d3 : W3.cell? ⟨w.heap.size, 3, none⟩ = some (.int .i64 xl) := by rw [K4.out.cell]; rfl
    have d4 : W3.cell? ⟨w.heap.size, 4, none⟩ = some (.int .i64 xh) := by rw [K4.out.cell]; rfl
    have d5 : W3.cell? ⟨w.heap.size, 5, none⟩ = some (.int .i64 yl) := by rw [K4.out.cell]; rfl
    have d6 : W3.cell? ⟨w.heap.size, 6, none⟩ = some (.int .i64 yh) := by rw [K4.out.cell]; rfl
    have H5 : Hid (Bk (W3.setRow (w.heap.size + 1) #[.slice (some ⟨g, 0, none⟩) n cap, .int .i64 rl, .int .i64 rh, .int .i64 xl, .int .i64 xh, .int .i64 yl, .int .i64 yh]) (w.heap.size + 1) 39 #[.slice (some ⟨g, 0, none⟩) n cap, .int .i64 rl, .int .i64 rh, .int .i64 xl, .int .i64 xh, .int .i64 yl, .int .i64 yh]) := setRow_heap W3 (w.heap.size + 1) _ #[.slice (some ⟨g, 0, none⟩) n cap, .int .i64 rl, .int .i64 rh, .int .i64 xl, .int .i64 xh, .int .i64 yl, .int .i64 yh] _ _ K5.out
    have B5 := Lib.hid (below_setRow B3.out (by omega : w.heap.size ≤ w.heap.size + 1) #[.slice (some ⟨g, 0, none⟩) n cap, .int .i64 rl, .int .i64 rh, .int .i64 xl, .int .i64 xh, .int .i64 yl, .int .i64 yh])
    have O5 : Hid (RdR (W3.setRow (w.heap.size + 1) #[.slice (some ⟨g, 0, none⟩) n cap, .int .i64 rl, .int .i64 rh, .int .i64 xl, .int .i64 xh, .int .i64 yl, .int .i64 yh]) g n ps) := Lib.hid (by
      have hne : g ≠ w.heap.size + 1 := by have := HGE.out; omega
      refine ⟨O3.out.1, fun h0 => by rw [setRow_size]; exact O3.out.2.1 h0, fun j hj => ?_⟩
      exact ⟨(cell_setRow_other _ _ _ ⟨g, j * 2, none⟩ hne).trans (O3.out.2.2 j hj).1, (cell_setRow_other _ _ _ ⟨g, j * 2 + 1, none⟩ hne).trans (O3.out.2.2 j hj).2⟩)
    have hI : Hid ((Tryd.prog.info? 39).map (·.size) = some (#[.slice (some ⟨g, 0, none⟩) n cap, .int .i64 rl, .int .i64 rh, .int .i64 xl, .int .i64 xh, .int .i64 yl, .int .i64 yh] : Array Value).size) := Lib.hid (by kernel_rfl)
    have hS : Hid ((#[.slice none 0 0, .int .i64 0, .int .i64 0, .int .i64 0, .int .i64 0, .int .i64 0, .int .i64 0] : Array Value).size = (#[.slice (some ⟨g, 0, none⟩) n cap, .int .i64 rl, .int .i64 rh, .int .i64 xl, .int .i64 xh, .int .i64 yl, .int .i64 yh] : Array Value).size) := Lib.hid rfl
    have hO : Hid ((#[.slice (some ⟨g, 0, none⟩) n cap, .int .i64 rl, .int .i64 rh, .int .i64 xl, .int .i64 xh, .int .i64 yl, .int .i64 yh] : Array Value).all (·.oneCell') = true) := Lib.hid (by simp [Value.oneCell'])
    go_wp2_with (with_reducible refine wpList_store_row rfl 39 (.tmp 2) (.tmp 8) rfl (w.heap.size + 1) #[.slice (some ⟨g, 0, none⟩) n cap, .int .i64 rl, .int .i64 rh, .int .i64 xl, .int .i64 xh, .int .i64 yl, .int .i64 yh] rfl rfl 39 #[.slice none 0 0, .int .i64 0, .int .i64 0, .int .i64 0, .int .i64 0, .int .i64 0, .int .i64 0] K5.out.heap hI.out hS.out hO.out ?_)
    refine bodyPost_ret (v := .agg #[.slice (some ⟨g, 0, none⟩) n cap, .int .i64 rl, .int .i64 rh, .int .i64 xl, .int .i64 xh, .int .i64 yl, .int .i64 yh]) ?_ rfl ⟨⟨_, _, rfl, O5.out⟩, B5.out⟩
    exact results_cell_row (fn := Tryd.f13) rfl _ _ (w.heap.size + 1) 39 #[.slice (some ⟨g, 0, none⟩) n cap, .int .i64 rl, .int .i64 rh, .int .i64 xl, .int .i64 xh, .int .i64 yl, .int .i64 yh] (0, 0) _ rfl H5.out Tryd.underlying39 rfl (by kernel_rfl)

end Go.Proofs.YtpkjkegcdddimaaDoor

