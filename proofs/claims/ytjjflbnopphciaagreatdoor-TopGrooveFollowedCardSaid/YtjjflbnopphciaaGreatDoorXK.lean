import Derived.Test.YtjjflbnopphciaaGreatDoorXB
import Derived.Test.YtjjflbnopphciaaGreatDoorXD
import Derived.Lib.AtoiAll
import Derived.Lib.AtoiTie
import Derived.Test.YtjjflbnopphciaaGreatDoorXH
import Derived.Test.YtjjflbnopphciaaGreatDoorXF
import Derived.Test.YtjjflbnopphciaaGreatDoorXA
namespace Go.Proofs.YtjjflbnopphciaaGreatDoor
open Go.RowKit

theorem ownBelowT {w w' : World} {base : Nat} {e : TypeId} {size : Nat} {v : Value} {n : Nat} {xs : List Value} (h : w.ownsRow base e size v n xs) (hb : Below w.heap.size w w') : w'.ownsRow base e size v n xs := by
  refine ⟨h.1, ?_⟩
  rcases h.2 with h0 | ⟨g, cap, cur, h1, h2, h3, h4⟩
  · exact .inl h0
  · exact .inr ⟨g, cap, cur, h1, h2, (hb.block g (Array.getElem?_eq_some_iff.1 h3).1).trans h3, h4⟩
theorem own_formT {w : World} {base size n : Nat} {t : TypeId} {v : Value} {xs : List Value} (h : w.ownsRow base t size v n xs) : ∃ A cap, v = .slice A n cap ∧ (0 < n → ∃ g, A = some ⟨g, 0, none⟩) := by
  rcases h.2 with ⟨rfl, rfl⟩ | ⟨g, cap, cur, rfl, _⟩
  · exact ⟨none, 0, rfl, fun h => absurd h (by omega)⟩
  · exact ⟨_, cap, rfl, fun _ => ⟨g, rfl⟩⟩

theorem strInfo : (Tryz.prog.info? 9).map (fun i => (i.zero, i.size, i.bytes)) = some (some (.string ⟨#[]⟩), 1, 16) := by kernel_rfl
/-- A string of these bytes. -/
def sv (l : List UInt8) : Value := .string ⟨l.toArray⟩
theorem sv_of (s : ByteArray) : Value.string s = sv s.data.toList := rfl
theorem sv_cells (l : List UInt8) : (sv l).oneCell' = true := rfl
theorem sv_extract (s : ByteArray) (a b : Nat) (l : List UInt8) (h : l = (s.data.toList.drop a).take (b - a)) : Value.string (s.extract a b) = sv l := by
  rw [sv_of]; subst h
  congr 1
  rw [Lib.extract_data]
theorem pcs_len_le (c : UInt8) (l : List UInt8) : (pcs c l).length ≤ l.length + 1 := by
  induction l with
  | nil => simp [pcs]
  | cons b t ih =>
    unfold pcs
    split
    · simp only [List.length_cons]; omega
    · cases h : pcs c t with
      | nil => simp
      | cons p ps => rw [h] at ih; simp only [List.length_cons] at ih ⊢; omega

set_option maxRecDepth 100000 in
set_option maxHeartbeats 2000000 in
theorem cut_any (s : ByteArray) (c : UInt8) (cI : Int) (hcI : ((c.toNat : Nat) : Int) = cI) (w : World) (hs : s.size ≤ 1000000000) :
    Calls Tryz.prog 40 #[.string s, .int .u8 cI] w fun e w' => (∃ v, e = .returned v ∧ w'.ownsRow w.heap.size 9 1 v (pcs c s.data.toList).length ((pcs c s.data.toList).map sv)) ∧ Below w.heap.size w w' := by
  obtain ⟨i0, hi0, hz0, hz1, hz2⟩ := info_parts strInfo
  have hlen : s.data.toList.length = s.size := by simp
  have HL := Lib.hid hlen; clear hlen
  obtain ⟨B, hB⟩ : ∃ B, w.heap.size = B := ⟨_, rfl⟩
  have HB := Lib.hid hB
  rw [hB]
  clear hB
  have HC := Lib.hid hcI
  clear hcI
  go_enter Tryz.func40, Tryz.ntmps40
  go_wp2
  go_loopw [5, 6, 7] (fun v f i wr => ∃ (fr k m : Nat) (done : List (List UInt8)), fr ≤ k ∧ k ≤ s.size ∧ Hid (m = done.length) ∧ m ≤ k ∧ f = .int .i64 (fr : Int) ∧ i = .int .i64 (k : Int) ∧ Hid (wr.ownsRow B 9 1 v m (done.map sv) ∧ Below B w wr) ∧ Hid (pcs c s.data.toList = done ++ pcs c (s.data.toList.drop fr) ∧ ∀ q, fr ≤ q → q < k → s.data.toList[q]? ≠ some c)) (fun _ _ i _ => s.size - (intOf i).toNat)
  case atStart => exact ⟨0, 0, 0, [], Nat.le_refl _, Nat.zero_le _, rfl, Nat.le_refl _, rfl, rfl, ⟨World.ownsRow_nil _ _ _ _, Below.refl _ _⟩, ⟨by simp, fun q _ h => by omega⟩⟩
  case round =>
    obtain ⟨fr, k, m, done, hfk, hks, hm, hmk, rfl, rfl, HI, HP⟩ := hrel
    obtain ⟨Ac, ca, rfl, _⟩ := own_formT HI.out.1
    have hsz : B ≤ wr.heap.size := by have := HI.out.2.size; have := HB.out; omega
    by_cases hlt : k < s.size
    · have hgk := str_get s k hlt
      by_cases hc : s[k] = c
      · have hce : (((s[k].toNat : Nat) : Int) == cI) = true := by rw [hc, ← HC.out]; simp
        have HX : Hid (Value.string (s.extract fr k) = sv ((s.data.toList.drop fr).take (k - fr))) := sv_extract s fr k _ rfl
        obtain ⟨X, hX⟩ : ∃ X, s.extract fr k = X := ⟨_, rfl⟩
        have HX1 : Hid (Value.string X = sv ((s.data.toList.drop fr).take (k - fr))) := by show _ = _; rw [← hX]; exact HX.out
        have hP2 : pcs c (s.data.toList.drop fr) = (s.data.toList.drop fr).take (k - fr) :: pcs c (s.data.toList.drop (k + 1)) := by
          have := pcs_hit c (s.data.toList.drop fr) (k - fr) (by rw [List.getElem?_drop, show fr + (k - fr) = k by omega, hgk, hc]) (fun q hq => by rw [List.getElem?_drop]; exact HP.out.2 _ (by omega) (by omega))
          rw [this, List.drop_drop, show fr + (k - fr + 1) = k + 1 by omega]
        have HP2 := Lib.hid hP2
        clear hP2 hc hgk
        have hX1 : (Value.string X).oneCell' = true := rfl
        have HNX : Hid (∀ j u, [.string X][j]? = some u → (wr.alloc (.cells #[.string X] 9)).cell? ((⟨wr.heap.size, 0, none⟩ : Addr).add j) = some u) := by
          intro j u hj
          cases j with
          | zero => have : Value.string X = u := by simpa using hj
                    subst this
                    simp [go_sem, Addr.add]
          | succ j => simp at hj
        have HX1c := Lib.hid hX1
        clear hX1
        go_wp2_with (at_builtin; refine wpList_append_own _ rfl (.tmp 19) (.tmp 24) 87 rfl B 9 i0 _ 1 16 Tryz.underlying87 hi0 hz0 hz1 hz2 rfl (by decide) _ _ _ rfl (HI.out.1.alloc _) ⟨wr.heap.size, 0, none⟩ 1 1 [.string X] rfl rfl HNX.out (by intro u hu; rw [List.mem_singleton.1 hu]; exact HX1c.out) (by unfold maxLen; omega) (by omega) (by simp; omega) ?_)
        intro v' w6 hown' hgrow _
        have HFIN : Hid ((w6.ownsRow B 9 1 v' (m + 1) ((done ++ [(s.data.toList.drop fr).take (k - fr)]).map sv) ∧ Below B w w6)) := by
          refine ⟨?_, (HI.out.2.alloc hsz _).grown hgrow (by simp; omega) (fun z e => (HI.out.1.lt z e).1)⟩
          rw [List.map_append, List.map_singleton, ← HX1.out]
          exact hown'
        clear hown' hgrow
        go_wp2
        go_roundw
        case rel =>
          refine ⟨k + 1, k + 1, m + 1, done ++ [(s.data.toList.drop fr).take (k - fr)], Nat.le_refl _, by omega, ?_, by omega, by go_num, by go_num, HFIN.out, ?_, fun q h1 h2 => by omega⟩
          · show _ = _; rw [List.length_append, hm.out]; rfl
          · rw [HP.out.1, HP2.out, List.append_assoc]; rfl
        case measure => simp [intOf]; omega
      · have hce : (((s[k].toNat : Nat) : Int) == cI) = false := by
          rw [← HC.out]
          refine beq_eq_false_iff_ne.2 fun e => hc ?_
          apply UInt8.toNat_inj.1
          omega
        have HP2 : Hid (∀ q, fr ≤ q → q < k + 1 → s.data.toList[q]? ≠ some c) := by
          intro q h1 h2
          by_cases e : q = k
          · subst e; rw [hgk]; exact fun e => hc (Option.some.inj e)
          · exact HP.out.2 q h1 (by omega)
        clear hgk hc
        go_wp2
        go_roundw
        case rel => exact ⟨fr, k + 1, m, done, by omega, by omega, hm, by omega, rfl, by go_num, HI.out, HP.out.1, HP2.out⟩
        case measure => simp [intOf]; omega
    · have HX : Hid (Value.string (s.extract fr s.size) = sv (s.data.toList.drop fr)) := sv_extract s fr s.size _ (by rw [List.take_of_length_le (by rw [List.length_drop, HL.out]; exact Nat.le_refl _)])
      obtain ⟨X, hX⟩ : ∃ X, s.extract fr s.size = X := ⟨_, rfl⟩
      have HX1 : Hid (Value.string X = sv (s.data.toList.drop fr)) := by show _ = _; rw [← hX]; exact HX.out
      have HP2 : Hid (pcs c (s.data.toList.drop fr) = [s.data.toList.drop fr]) := by
        refine pcs_miss c _ fun q => ?_
        rw [List.getElem?_drop]
        by_cases e : fr + q < k
        · exact HP.out.2 _ (by omega) e
        · rw [List.getElem?_eq_none (by rw [HL.out]; omega)]; exact fun e => by cases e
      have hX1 : (Value.string X).oneCell' = true := rfl
      have HNX : Hid (∀ j u, [.string X][j]? = some u → (wr.alloc (.cells #[.string X] 9)).cell? ((⟨wr.heap.size, 0, none⟩ : Addr).add j) = some u) := by
        intro j u hj
        cases j with
        | zero => have : Value.string X = u := by simpa using hj
                  subst this
                  simp [go_sem, Addr.add]
        | succ j => simp at hj
      have HX1c := Lib.hid hX1
      clear hX1
      go_wp2_with (at_builtin; refine wpList_append_own _ rfl (.tmp 28) (.tmp 32) 87 rfl B 9 i0 _ 1 16 Tryz.underlying87 hi0 hz0 hz1 hz2 rfl (by decide) _ _ _ rfl (HI.out.1.alloc _) ⟨wr.heap.size, 0, none⟩ 1 1 [.string X] rfl rfl HNX.out (by intro u hu; rw [List.mem_singleton.1 hu]; exact HX1c.out) (by unfold maxLen; omega) (by omega) (by simp; omega) ?_)
      intro v' w6 hown' hgrow _
      have HFIN : Hid ((w6.ownsRow B 9 1 v' (m + 1) ((done ++ [s.data.toList.drop fr]).map sv) ∧ Below B w w6)) := by
        refine ⟨?_, (HI.out.2.alloc hsz _).grown hgrow (by simp; omega) (fun z e => (HI.out.1.lt z e).1)⟩
        rw [List.map_append, List.map_singleton, ← HX1.out]
        exact hown'
      clear hown' hgrow
      go_wp2
      go_ret
      refine ⟨⟨_, rfl, ?_⟩, HFIN.out.2⟩
      rw [HP.out.1, HP2.out, List.length_append, List.length_singleton, ← hm.out]
      exact HFIN.out.1

theorem own_str {w : World} {base n : Nat} {t : TypeId} {v : Value} {xs : List Value} (h : w.ownsRow base t 1 v n xs) (hl : xs.length = n) (hn : 0 < n) :
    ∃ g cp, v = .slice (some ⟨g, 0, none⟩) n cp ∧ base ≤ g ∧ g < w.heap.size ∧ ∀ k x, xs[k]? = some x → w.cell? ⟨g, k, none⟩ = some x := by
  rcases h.2 with ⟨_, e⟩ | ⟨g, cap, cur, e, hb, hg, h1, h2, h3, h4⟩
  · omega
  · refine ⟨g, cap, e, hb, (Array.getElem?_eq_some_iff.1 hg).1, fun k x hx => ?_⟩
    have hk : k < n := by have := (List.getElem?_eq_some_iff.1 hx).1; omega
    rw [cell_of_row w g k cur _ (0, 0) hg, ← Array.getElem?_toList]
    have e1 : (cur.toList.take (n * 1))[k]? = some x := by rw [h4]; exact hx
    rw [List.getElem?_take, if_pos (by omega)] at e1
    exact e1

theorem cut_form (s : ByteArray) (c : UInt8) (cI : Int) (hcI : ((c.toNat : Nat) : Int) = cI) (w : World) (hs : s.size ≤ 1000000000) (ps : List (List UInt8)) (n : Nat) (hps : pcs c s.data.toList = ps) (hn : ps.length = n) :
    Calls Tryz.prog 40 #[.string s, .int .u8 cI] w fun e w' => ∃ g cp, e = .returned (.slice (some ⟨g, 0, none⟩) n cp) ∧ w.heap.size ≤ g ∧ g < w'.heap.size ∧ (∀ k x, ps[k]? = some x → w'.cell? ⟨g, k, none⟩ = some (sv x)) ∧ Below w.heap.size w w' := by
  refine (cut_any s c cI hcI w hs).mono ?_
  rintro e w' ⟨⟨v, rfl, ho⟩, hb⟩
  rw [hps, hn] at ho
  have h0 : 0 < n := by have := List.length_pos_iff.2 (pcs_ne c s.data.toList); rw [hps, hn] at this; exact this
  obtain ⟨g, cp, rfl, h1, h2, h3⟩ := own_str ho (by rw [List.length_map, hn]) h0
  exact ⟨g, cp, rfl, h1, h2, fun k x hx => h3 k _ (by rw [List.getElem?_map, hx]; rfl), hb⟩

end Go.Proofs.YtjjflbnopphciaaGreatDoor

namespace Go.Proofs.YtjjflbnopphciaaGreatDoor
open Go.RowKit

/-- Numbers as texts, a blank between. -/
def joinP (xs : List Int) : List UInt8 := Lib.join (xs.map Lib.itoa) [32]
theorem joinP_one (x : Int) : joinP [x] = Lib.itoa x := by simp [joinP, Lib.join_cons, Lib.joinTail]
theorem joinP_snoc (xs : List Int) (x : Int) (h : xs ≠ []) : joinP (xs ++ [x]) = joinP xs ++ 32 :: Lib.itoa x := by
  induction xs with
  | nil => exact absurd rfl h
  | cons a t ih =>
    cases t with
    | nil => simp [joinP, Lib.join_cons, Lib.joinTail]
    | cons b r =>
      have := ih (by simp)
      simp only [joinP, List.cons_append, List.map_cons, Lib.join_cons, Lib.joinTail] at this ⊢
      simp [this]
theorem digitsB_len (u d : Nat) (h : u < 10 ^ d) (hd : 1 ≤ d) : (Lib.decDigits u).length ≤ d := by
  have := nDigits_le_of u d h hd
  first | exact this | (rw [Lib.decDigits_length]; exact this) | (simpa [Lib.nDigits] using this)
theorem itoaB_size (n : Int) (h0 : -9223372036854775808 ≤ n) (h1 : n ≤ 9223372036854775807) : (Lib.itoa n).length ≤ 20 := by
  unfold Lib.itoa
  split
  · rename_i h
    have := digitsB_len n.natAbs 19 (by omega) (by omega)
    simp only [List.length_cons]
    omega
  · have := digitsB_len n.natAbs 19 (by omega) (by omega)
    first | omega | (have e : n.toNat = n.natAbs := by omega
                     rw [e]; omega)
def I64 (xs : List Int) : Prop := ∀ x ∈ xs, -9223372036854775808 ≤ x ∧ x ≤ 9223372036854775807

set_option maxRecDepth 100000 in
set_option maxHeartbeats 4000000 in
theorem join_any (A : Option Addr) (n cp : Nat) (xs : List Int) (w : World) (hr : RdI w A n xs) (hn : n ≤ 1000) (hx : I64 xs) (hl : xs.length = n) :
    Calls Tryz.prog 11 #[.slice A n cp] w fun e w' => e = .returned (.string (⟨(joinP xs).toArray⟩ : ByteArray)) ∧ Below w.heap.size w w' := by
  have HR := Lib.hid hr
  have HX := Lib.hid hx
  have HLN := Lib.hid hl
  obtain ⟨R, hR⟩ : ∃ R, (⟨(joinP xs).toArray⟩ : ByteArray) = R := ⟨_, rfl⟩
  have HRR := Lib.hid hR
  rw [hR]
  clear hr hx hl hR
  go_enter Tryz.func11, Tryz.ntmps11
  go_wp2
  go_loopw [3, 4] (fun s i wr => ∃ (j : Nat) (X : ByteArray), j ≤ n ∧ i = .int .i64 (j : Int) ∧ s = .string X ∧ X.size ≤ 21 * j ∧ Hid (X = ⟨(joinP (xs.take j)).toArray⟩ ∧ Below w.heap.size w wr)) (fun _ i _ => n - (intOf i).toNat)
  case atStart => exact ⟨0, ⟨#[]⟩, Nat.zero_le _, rfl, rfl, by decide, rfl, Below.refl _ _⟩
  case round =>
    obtain ⟨j, X, hj, rfl, rfl, hXz, HI⟩ := hrel
    by_cases hlt : j < n
    · obtain ⟨ad, rfl, hal, hcx⟩ := (HR.out.below HI.out.2).2 (by omega)
      have hcj := hcx j hlt
      have hxm : xs.getD j 0 ∈ xs := by
        rw [List.getD_eq_getElem?_getD, List.getElem?_eq_getElem (by rw [HLN.out]; exact hlt)]
        exact List.getElem_mem _
      have hxb := HX.out _ hxm
      have hsn : xs.take (j + 1) = xs.take j ++ [xs.getD j 0] := by
        rw [List.take_add_one, List.getD_eq_getElem?_getD, List.getElem?_eq_getElem (by rw [HLN.out]; exact hlt)]
        rfl
      obtain ⟨x, hx⟩ : ∃ x, xs.getD j 0 = x := ⟨_, rfl⟩
      rw [hx] at hcj hxb hsn
      obtain ⟨D, hD⟩ : ∃ D, (⟨(Lib.itoa x).toArray⟩ : ByteArray) = D := ⟨_, rfl⟩
      have hDz : D.size ≤ 20 := by rw [← hD, bytes_size]; exact itoaB_size x hxb.1 hxb.2
      have CD := Lib.hid (decimal_any x wr hxb.1 hxb.2)
      rw [hD] at CD
      have hltI : (j : Int) < (n : Int) := by omega
      have hadj : ad.add j = ad.add j := rfl
      have HSN := Lib.hid hsn
      have HD := Lib.hid hD
      clear hsn hx hxm hcx hD hxb
      by_cases h0 : j = 0
      · subst h0
        have hcj0 : wr.cell? ad = some (.int .i64 x) := by
          have e0 : ad.add 0 = ad := by unfold Addr.add; split <;> simp_all
          rwa [e0] at hcj
        clear hcj
        have hX0 : X = ⟨#[]⟩ := by
          have := HI.out.1
          rw [this, List.take_zero]; rfl
        subst hX0
        have HF : Hid ((⟨#[]⟩ : ByteArray) ++ D = ⟨(joinP (xs.take 1)).toArray⟩) := by
          show _ = _
          rw [HSN.out, List.take_zero, List.nil_append, joinP_one, ← HD.out]
          apply ByteArray.ext; simp
        have HF2 : Hid (D = ⟨(joinP (xs.take 1)).toArray⟩) := by
          show _ = _
          rw [HSN.out, List.take_zero, List.nil_append, joinP_one, ← HD.out]
        have z1 : ¬ 9223372036854775807 < 0 + D.size := by omega
        have z2 : ¬ 9223372036854775807 < D.size := by omega
        go_wp2_with (go_at_call 42; refine CD.out.mono ?_; rintro e w' ⟨rfl, hb⟩)
        go_roundw
        case rel =>
          first
            | exact ⟨1, D, by omega, by go_num, rfl, by omega, HF2.out, HI.out.2.trans (hb.mono HI.out.2.size)⟩
            | exact ⟨1, _, by omega, by go_num, rfl, by simp; omega, HF.out, HI.out.2.trans (hb.mono HI.out.2.size)⟩
        case measure => simp [intOf]; omega
      · have hpos : (0 : Int) < (j : Int) := by omega
        have hne : xs.take j ≠ [] := by
          intro e
          have := congrArg List.length e
          rw [List.length_take, HLN.out] at this
          simp at this; omega
        have HF : Hid (X ++ (⟨#[32]⟩ : ByteArray) ++ D = ⟨(joinP (xs.take (j + 1))).toArray⟩) := by
          show _ = _
          rw [HSN.out, joinP_snoc _ _ hne, HI.out.1, ← HD.out]
          apply ByteArray.ext; simp
        have z1 : ¬ 9223372036854775807 < X.size + 1 := by omega
        have z2 : ¬ 9223372036854775807 < X.size + 1 + D.size := by omega
        clear hne
        go_wp2_with (go_at_call 42; refine CD.out.mono ?_; rintro e w' ⟨rfl, hb⟩)
        go_roundw
        case rel => exact ⟨j + 1, _, by omega, by go_num, rfl, by rw [ByteArray.size_append, ByteArray.size_append]; show X.size + 1 + D.size ≤ _; omega, HF.out, HI.out.2.trans (hb.mono HI.out.2.size)⟩
        case measure => simp [intOf]; omega
    · obtain rfl : j = n := by omega
      have hXX : Hid (X = R) := by
        show _ = _
        rw [HI.out.1, ← HRR.out, List.take_of_length_le (by rw [HLN.out]; exact Nat.le_refl _)]
      go_wp2
      go_ret
      exact ⟨by rw [← hXX.out]; rfl, HI.out.2⟩

theorem joinP_len (xs : List Int) (h : I64 xs) : (joinP xs).length ≤ 21 * xs.length := by
  have key : ∀ ys zs : List Int, zs ++ ys = xs → zs ≠ [] → (joinP zs).length ≤ 21 * zs.length → (joinP (zs ++ ys)).length ≤ 21 * (zs ++ ys).length := by
    intro ys
    induction ys with
    | nil => intro zs _ _ hz; simpa using hz
    | cons y r ih =>
      intro zs he hne hz
      have hy := h y (by rw [← he]; simp)
      have hyl := itoaB_size y hy.1 hy.2
      have := ih (zs ++ [y]) (by rw [← he]; simp) (by simp) (by
        rw [joinP_snoc _ _ hne]
        simp only [List.length_append, List.length_cons, List.length_nil]
        omega)
      simpa using this
  cases xs with
  | nil => simp [joinP, Lib.join]
  | cons x r =>
    have hx := h x (by simp)
    have := key r [x] (by simp) (by simp) (by rw [joinP_one]; have := itoaB_size x hx.1 hx.2; simp; omega)
    simpa using this
end Go.Proofs.YtjjflbnopphciaaGreatDoor

namespace Go.Proofs.YtjjflbnopphciaaGreatDoor
open Go.RowKit

theorem decDigits_back (r : List UInt8) : ∀ n, r ≠ [] → (r.head? ≠ some 48 ∨ r.length ≤ 1) → Lib.decFrom 0 r = some n → r = Lib.decDigits n := by
  have key : ∀ (k : Nat) (r : List UInt8), r.length = k → ∀ n, r ≠ [] → (r.head? ≠ some 48 ∨ r.length ≤ 1) → Lib.decFrom 0 r = some n → r = Lib.decDigits n := by
    intro k
    induction k with
    | zero => intro r hl n hne; exact absurd (List.eq_nil_of_length_eq_zero hl) hne
    | succ k ih =>
      intro r hl n hne hh hd
      rcases List.eq_nil_or_concat r with e | ⟨t, b, e⟩
      · exact absurd e hne
      · rw [List.concat_eq_append] at e
        subst e
        rw [decFrom_append] at hd
        cases hm : Lib.decFrom 0 t with
        | none => rw [hm] at hd; cases hd
        | some m =>
          rw [hm] at hd
          have hd2 : Lib.decFrom m [b] = some n := hd
          rw [Lib.decFrom] at hd2
          cases hv : Lib.digitVal b with
          | none => rw [hv] at hd2; cases hd2
          | some d =>
            rw [hv] at hd2
            have hn : m * 10 + d = n := by
              have : Lib.decFrom (m * 10 + d) [] = some n := hd2
              rw [Lib.decFrom] at this
              exact Option.some.inj this
            obtain ⟨h1, h2, h3⟩ := Lib.digitVal_eq hv
            have hb : b = UInt8.ofNat (48 + d) := by
              apply UInt8.toNat_inj.1
              rw [UInt8.toNat_ofNat']
              omega
            by_cases ht : t = []
            · subst ht
              have hm0 : m = 0 := by rw [Lib.decFrom] at hm; exact (Option.some.inj hm).symm
              subst hm0
              rw [← hn, Lib.decDigits, dif_pos (by omega), List.nil_append, hb, Nat.zero_mul, Nat.zero_add]
            · have hlen : t.length = k := by simp at hl; exact hl
              have hpos : 0 < t.length := List.length_pos_iff.2 ht
              have hh1 : (t ++ [b]).head? ≠ some 48 := by
                rcases hh with h | h
                · exact h
                · rw [List.length_append, List.length_singleton] at h; omega
              have hht : t.head? ≠ some 48 := by
                have e1 : (t ++ [b]).head? = t.head? := by
                  cases t with
                  | nil => exact absurd rfl ht
                  | cons a u => rfl
                rw [e1] at hh1
                exact hh1
              have hmp := decFrom_pos hm hht ht
              have := ih t hlen m ht (.inl hht) hm
              rw [Lib.decDigits, dif_neg (by omega), show n / 10 = m by omega, show n % 10 = d by omega, ← this, hb]
  exact fun n => key r.length r rfl n

theorem digs_back {r : List UInt8} {d n : Nat} {z : Bool} (hz : z = true → r.length ≤ 1) (h : digs r d z = some n) : r = Lib.decDigits n ∧ Lib.decFrom 0 r = some n ∧ r ≠ [] ∧ r.length ≤ d ∧ (z = false → 0 < n) := by
  unfold digs at h
  split at h
  · cases h
  · rename_i h1
    have hne : r ≠ [] := fun e => h1 (.inl e)
    have hl : r.length ≤ d := by
      by_cases e : d < r.length
      · exact absurd (.inr (.inl e)) h1
      · omega
    have hh : r.head? ≠ some 48 ∨ r.length ≤ 1 := by
      cases z with
      | true => exact .inr (hz rfl)
      | false => exact .inl fun e => h1 (.inr (.inr ⟨e, rfl⟩))
    refine ⟨decDigits_back r n hne hh h, h, hne, hl, fun e => ?_⟩
    subst e
    exact decFrom_pos h (fun e => h1 (.inr (.inr ⟨e, rfl⟩))) hne

theorem atoi_minus {r : List UInt8} {n : Nat} (h : Lib.decFrom 0 r = some n) (hne : r ≠ []) : Lib.atoi (45 :: r) = some (-(n : Int)) := by
  have : Lib.decNat r = some n := by
    unfold Lib.decNat
    rw [if_neg (by cases r with | nil => exact absurd rfl hne | cons a t => simp), h]
  rw [Lib.atoi, if_pos (by decide), this]; rfl
theorem atoi_plain {r : List UInt8} {n : Nat} (h : Lib.decFrom 0 r = some n) (hne : r ≠ []) : Lib.atoi r = some (n : Int) := by
  have h2 : Lib.decNat r = some n := by
    unfold Lib.decNat
    rw [if_neg (by cases r with | nil => exact absurd rfl hne | cons a t => simp), h]
  cases r with
  | nil => exact absurd rfl hne
  | cons b t =>
    obtain ⟨d, hd⟩ := Lib.digit_of_decFrom _ _ _ h 0 b rfl
    obtain ⟨h1, h3, _⟩ := Lib.digitVal_eq hd
    have a1 : (b == 45) = false := by
      refine beq_eq_false_iff_ne.2 ?_
      rintro rfl
      have : (45 : UInt8).toNat = 45 := rfl
      omega
    have a2 : (b == 43) = false := by
      refine beq_eq_false_iff_ne.2 ?_
      rintro rfl
      have : (43 : UInt8).toNat = 43 := rfl
      omega
    rw [Lib.atoi, if_neg (by rw [a1]; decide), if_neg (by rw [a2]; decide), h2]
    rfl

/-- What the base's Number reads is written so, and Atoi reads it. -/
theorem numS_back {l : List UInt8} {d : Nat} {k : Int} (h : numS l d = some k) (hd : d ≤ 17) : l = Lib.itoa k ∧ Lib.atoiAll l = .ok k := by
  unfold numS at h
  split at h
  · rename_i hm
    cases hn : digs l.tail d false with
    | none => rw [hn] at h; cases h
    | some n =>
      rw [hn] at h
      have hk : k = -(n : Int) := (Option.some.inj h).symm
      obtain ⟨h1, h2, h3, h4, h5⟩ := digs_back (fun e => by cases e) hn
      have hp := h5 rfl
      have hl : l = 45 :: l.tail := by
        cases l with
        | nil => simp at hm
        | cons a t => simp at hm; subst hm; rfl
      have ha : Lib.atoi l = some k := by rw [hl, hk]; exact atoi_minus h2 h3
      refine ⟨?_, ?_⟩
      · rw [hk, Lib.itoa_neg n (by omega), ← h1]; exact hl
      · rw [Lib.atoiAll_short l (by rw [hl, List.length_cons]; omega), ha]; rfl
  · cases hn : digs l d (decide (l.length ≤ 1)) with
    | none => rw [hn] at h; cases h
    | some n =>
      rw [hn] at h
      have hk : k = (n : Int) := (Option.some.inj h).symm
      obtain ⟨h1, h2, h3, h4, _⟩ := digs_back (fun e => of_decide_eq_true e) hn
      refine ⟨?_, ?_⟩
      · rw [hk, Lib.itoa_nonneg n]; exact h1
      · rw [Lib.atoiAll_short l (by omega), hk, atoi_plain h2 h3]; rfl

theorem numS_int7 (x : Int) (h : -10000000 < x ∧ x < 10000000) : numS (Lib.itoa x) 7 = some x := by
  rcases Int.lt_trichotomy x 0 with h0 | h0 | h0
  · obtain ⟨u, hu⟩ : ∃ u : Nat, x = -(u : Int) := ⟨x.natAbs, by omega⟩
    rw [hu, Lib.itoa_neg u (by omega)]
    unfold numS
    rw [if_pos (show (45 :: Lib.decDigits u).head? = some 45 from rfl), List.tail_cons]
    have hd : digs (Lib.decDigits u) 7 false = some u := by
      have h1 := digs_digits u 7 (by omega) (by omega)
      have hne := decDigits_ne u
      have hh := decDigits_head u (by omega)
      have hl := digitsB_len u 7 (by omega) (by omega)
      unfold digs
      rw [if_neg]
      · exact decFrom_digits u
      · rintro (e | e | e)
        · exact hne e
        · omega
        · exact hh e.1
    rw [hd]; rfl
  · subst h0
    decide +kernel
  · obtain ⟨u, hu⟩ : ∃ u : Nat, x = (u : Int) := ⟨x.toNat, by omega⟩
    rw [hu, Lib.itoa_nonneg u]
    unfold numS
    have hh : (Lib.decDigits u).head? ≠ some 45 := by
      intro e
      have hm : (45 : UInt8) ∈ Lib.decDigits u := List.mem_of_mem_head? e
      have := decDigits_all u 45 hm
      revert this; decide
    rw [if_neg hh, digs_digits u 7 (by omega) (by omega)]
    rfl
theorem itoaG_all (n : Int) : ∀ b ∈ Lib.itoa n, b ≠ 32 := by
  intro b hb
  have := itoa_all n b hb
  rintro rfl; revert this; decide
theorem pcs_joinG (xs : List Int) (h : xs ≠ []) : pcs 32 (joinP xs) = xs.map Lib.itoa := by
  refine pcs_join 32 _ (by simpa using h) ?_
  intro x hx b hb
  obtain ⟨y, _, rfl⟩ := List.mem_map.1 hx
  exact itoaG_all y b hb

/-- The numbers of words, if all are numbers of at most seven digits. -/
def numsW : List (List UInt8) → Option (List Int)
  | [] => some []
  | p :: ps => match numS p 7 with
    | some k => (numsW ps).map (k :: ·)
    | none => none
theorem numsW_ok : ∀ (ps : List (List UInt8)) (l : List Int), numsW ps = some l → ps = l.map Lib.itoa ∧ (∀ x ∈ l, -10000000 < x ∧ x < 10000000) := by
  intro ps
  induction ps with
  | nil => intro l h; simp [numsW] at h; subst h; simp
  | cons p ps ih =>
    intro l h
    unfold numsW at h
    cases hk : numS p 7 with
    | none => rw [hk] at h; cases h
    | some k =>
      rw [hk] at h
      cases hr : numsW ps with
      | none => rw [hr] at h; cases h
      | some r =>
        rw [hr] at h
        have hl : l = k :: r := (Option.some.inj h).symm
        subst hl
        obtain ⟨h1, h2⟩ := ih r hr
        have hb := numS_bd hk
        refine ⟨by rw [List.map_cons, ← h1, ← (numS_back hk (by omega)).1], ?_⟩
        intro x hx
        rcases List.mem_cons.1 hx with rfl | hx
        · have : (10 : Nat) ^ 7 = 10000000 := by decide
          omega
        · exact h2 x hx
theorem numsW_itoa : ∀ l : List Int, (∀ x ∈ l, -10000000 < x ∧ x < 10000000) → numsW (l.map Lib.itoa) = some l := by
  intro l
  induction l with
  | nil => intro _; rfl
  | cons x l ih =>
    intro h
    rw [List.map_cons, numsW, numS_int7 x (h x (by simp)), ih fun y hy => h y (by simp [hy])]
    rfl
theorem numsW_bad : ∀ (ps : List (List UInt8)) (j : Nat) (p : List UInt8), ps[j]? = some p → numS p 7 = none → numsW ps = none := by
  intro ps
  induction ps with
  | nil => intro j p h; simp at h
  | cons q ps ih =>
    intro j p h hn
    unfold numsW
    cases j with
    | zero =>
      have : q = p := by simpa using h
      subst this
      rw [hn]
    | succ j =>
      cases hk : numS q 7 with
      | none => rfl
      | some k => rw [ih j p (by simpa using h) hn]; rfl
theorem numsW_snoc (ps : List (List UInt8)) (p : List UInt8) (k : Int) (hk : numS p 7 = some k) : ∀ l, numsW ps = some l → numsW (ps ++ [p]) = some (l ++ [k]) := by
  induction ps with
  | nil => intro l hl; simp [numsW] at hl; subst hl; simp [numsW, hk]
  | cons q t ih =>
    intro l hl
    rw [numsW] at hl
    rw [List.cons_append, numsW]
    cases hq : numS q 7 with
    | none => rw [hq] at hl; cases hl
    | some a =>
      rw [hq] at hl
      cases hr : numsW t with
      | none => rw [hr] at hl; cases hl
      | some r =>
        rw [hr] at hl
        have : l = a :: r := (Option.some.inj hl).symm
        subst this
        rw [ih r hr]
        rfl
theorem numsW_take (ps : List (List UInt8)) (j : Nat) (p : List UInt8) (l : List Int) (k : Int) (h : ps[j]? = some p) (hl : numsW (ps.take j) = some l) (hk : numS p 7 = some k) : numsW (ps.take (j + 1)) = some (l ++ [k]) := by
  have e : ps.take (j + 1) = ps.take j ++ [p] := by rw [List.take_add_one, h]; rfl
  rw [e]
  exact numsW_snoc _ _ _ hk _ hl

/-- What the numbers of a path give. -/
def pathO : Option (List Int) → List Int × Int
  | none => ([], 7)
  | some l => if posE l = 0 then (l, 0) else ([], posE l)
/-- What a path's string says: the numbers and the error. -/
def pathS (s : ByteArray) : List Int × Int :=
  if 60000 < s.size then ([], 8) else if s.size = 0 then ([], 0) else pathO (numsW (pcs 32 s.data.toList))
theorem pathO_ok {l : List Int} (h : posE l = 0) : pathO (some l) = (l, 0) := if_pos h
theorem pathO_err {l : List Int} (h : posE l ≠ 0) : pathO (some l) = ([], posE l) := if_neg h
theorem joinP_pos (l : List Int) (hne : l ≠ []) : 0 < (joinP l).length := by
  cases l with
  | nil => exact absurd rfl hne
  | cons x r =>
    have h1 := List.length_pos_iff.2 (itoa_ne x)
    unfold joinP
    rw [List.map_cons, Lib.join_cons, List.length_append]
    omega
/-- Valid positions are read again. -/
theorem pathS_join (l : List Int) (h : posE l = 0) (hb : ∀ x ∈ l, -1000000 ≤ x ∧ x ≤ 1000000) (hl : l.length ≤ 200) : pathS ⟨(joinP l).toArray⟩ = (l, 0) := by
  have hlen : (joinP l).length ≤ 21 * l.length := joinP_len l fun x hx => by have := hb x hx; omega
  unfold pathS
  rw [bytes_size, if_neg (by omega)]
  by_cases hn : l = []
  · subst hn
    rw [if_pos (by rfl)]
  · have := joinP_pos l hn
    rw [if_neg (by omega)]
    show pathO (numsW (pcs 32 (joinP l))) = _
    rw [pcs_joinG l hn, numsW_itoa l fun x hx => by have := hb x hx; omega]
    exact pathO_ok h
end Go.Proofs.YtjjflbnopphciaaGreatDoor

namespace Go.Proofs.YtjjflbnopphciaaGreatDoor
open Go.RowKit

set_option maxRecDepth 100000 in
set_option maxHeartbeats 4000000 in
theorem maxPrice_any (ad : Addr) (n c m : Nat) (rows : List (List Int)) (b : Int) (PA : Option Addr) (cp : Nat) (p : List (List Int)) (r k : Nat) (w : World) (hr : RdG w (some ad) n rows) (hp : RdG w PA n p) (hn : n ≤ 1000000) (hm : m ≤ 1000000) (hrn : r < n) (hkm : k < m) (hbb : 0 ≤ b ∧ b ≤ 1000)
    (hg : ∀ r ∈ rows, r.length = m ∧ ∀ x ∈ r, 0 ≤ x ∧ x ≤ 255) (hpg : ∀ r ∈ p, r.length = m ∧ ∀ x ∈ r, -1000000 ≤ x ∧ x ≤ 1000000) :
    Calls Tryz.prog 52 #[.agg #[.slice (some ad) n c, .int .i64 b, .int .i64 m], .slice PA n cp, .int .i64 (r : Int), .int .i64 (k : Int)] w fun e w' => e = .returned (.int .i64 (mpF rows b m p r k)) ∧ Below w.heap.size w w' := by
  have hb0 : Below w.heap.size w (w.alloc (.cells #[.slice (some ad) n c, .int .i64 b, .int .i64 m] 104)) := (Below.refl _ _).alloc (Nat.le_refl _) _
  have HR1 := Lib.hid (hr.below hb0)
  have HP1 := Lib.hid (hp.below hb0)
  have HB0 := Lib.hid hb0
  have HN := Lib.hid (Bk.new w 104 #[.slice (some ad) n c, .int .i64 b, .int .i64 m])
  have HPG := Lib.hid hpg
  have hrI : (r : Int) < (n : Int) := by omega
  have hr0 : (0 : Int) ≤ (r : Int) := by omega
  have hkI : (k : Int) < (m : Int) := by omega
  have hk0 : (0 : Int) ≤ (k : Int) := by omega
  obtain ⟨W1, hW1⟩ : ∃ W, w.alloc (.cells #[.slice (some ad) n c, .int .i64 b, .int .i64 m] 104) = W := ⟨_, rfl⟩
  obtain ⟨g, hgw⟩ : ∃ g, w.heap.size = g := ⟨_, rfl⟩
  rw [hW1] at HR1 HP1 HB0 HN
  rw [hgw] at HN
  have n0 : W1.cell? ⟨g, 0, none⟩ = some (.slice (some ad) n c) := by rw [HN.out.cell]; rfl
  have n1 : W1.cell? ⟨g, 1, none⟩ = some (.int .i64 b) := by rw [HN.out.cell]; rfl
  have n2 : W1.cell? ⟨g, 2, none⟩ = some (.int .i64 m) := by rw [HN.out.cell]; rfl
  obtain ⟨bd, cb, r1, r2, hv0, hv1, _, _⟩ := grid_at HR1.out hg r k hrn hkm
  obtain ⟨v, hve⟩ : ∃ v, (rows.getD r []).getD k 0 = v := ⟨_, rfl⟩
  have HV : Hid (cellV rows r k = v) := hve
  rw [hve] at r2 hv0 hv1
  have HGW := Lib.hid hgw
  clear hr hp hb0 hg hpg hve
  by_cases h0 : r = 0
  · have HM : Hid (mpF rows b m p r k = v) := by show _ = _; unfold mpF; rw [if_pos h0, HV.out]; omega
    have hq : ((r : Int) == 0) = true := by rw [h0]; rfl
    have hq2 : (r == 0) = true := by rw [h0]; rfl
    rw [HM.out]
    have hr00 : r = 0 := h0
    subst hr00
    rw [addZ] at r1
    go_enter Tryz.func52, Tryz.ntmps52
    try simp only [hgw]
    go_wp2
    go_ret
    first | exact ⟨rfl, HB0.out⟩ | (rw [← HGW.out]; exact ⟨rfl, HB0.out⟩)
  · obtain ⟨q, hq⟩ : ∃ q, r = q + 1 := ⟨r - 1, by omega⟩
    obtain ⟨pd, hPA, hpdb, hc⟩ := HP1.out.2 (by omega)
    subst hPA
    obtain ⟨Bq, mq, cq, hck, hrow, _⟩ := hc q (by omega)
    have hpq := HPG.out _ (getD_in p q [] (by rw [HP1.out.1]; omega))
    obtain rfl : mq = m := by rw [← hrow.1, hpq.1]
    have hl := chp_least (p.getD q []) b 1000000 k mq hkm hpq.1 hbb.1 (by omega) hpq.2
    obtain ⟨z1, z2, hz⟩ : ∃ z1 z2, chp (p.getD q []) b k mq = (z1, z2) := ⟨_, _, rfl⟩
    have HM : Hid (mpF rows b mq p r k = v + z2) := by
      show _ = _
      unfold mpF
      rw [if_neg h0, HV.out, show r - 1 = q by omega, hz]
    rw [hz] at hl
    have hzb : -1000000 ≤ z2 ∧ z2 ≤ 1001000 := by have := hl.2; dsimp only at this; omega
    have CC : Hid (∀ W', (fun w' : World => w'.cell? ⟨g, 0, none⟩ = some (.slice (some ad) n c) ∧ w'.cell? ⟨g, 1, none⟩ = some (.int .i64 b) ∧ w'.cell? ⟨g, 2, none⟩ = some (.int .i64 mq) ∧ w'.cell? (pd.add q) = some (.slice Bq mq cq) ∧ Below W1.heap.size W1 w') W' → Calls Tryz.prog 82 #[.agg #[.slice (some ad) n c, .int .i64 b, .int .i64 mq], .slice Bq mq cq, .int .i64 (k : Int)] W' fun e w' => e = .returned (.tuple #[.int .i64 z1, .int .i64 z2]) ∧ (fun w' : World => w'.cell? ⟨g, 0, none⟩ = some (.slice (some ad) n c) ∧ w'.cell? ⟨g, 1, none⟩ = some (.int .i64 b) ∧ w'.cell? ⟨g, 2, none⟩ = some (.int .i64 mq) ∧ w'.cell? (pd.add q) = some (.slice Bq mq cq) ∧ Below W1.heap.size W1 w') w') := by
      rintro W' ⟨g1, g2, g3, g4, g5⟩
      have h := cheapest_neg (.slice (some ad) n c) b mq k Bq cq (p.getD q []) W' hkm hm (hrow.below g5) ⟨hbb.1, by omega⟩ (fun x hx => by have := hpq.2 x hx; omega)
      rw [hz] at h
      refine h.mono ?_
      rintro e w' ⟨he, hb⟩
      exact ⟨he, (hb.cell (World.block_lt_of_cell? _ _ g1)).trans g1, (hb.cell (World.block_lt_of_cell? _ _ g2)).trans g2, (hb.cell (World.block_lt_of_cell? _ _ g3)).trans g3, (hb.cell (World.block_lt_of_cell? _ _ g4)).trans g4, g5.trans (hb.mono g5.size)⟩
    have HS0 : Hid ((fun w' : World => w'.cell? ⟨g, 0, none⟩ = some (.slice (some ad) n c) ∧ w'.cell? ⟨g, 1, none⟩ = some (.int .i64 b) ∧ w'.cell? ⟨g, 2, none⟩ = some (.int .i64 mq) ∧ w'.cell? (pd.add q) = some (.slice Bq mq cq) ∧ Below W1.heap.size W1 w') W1.drew) := ⟨n0, n1, n2, hck, (Below.refl _ _).drew⟩
    have hz1 : IntKind.i64.wrap ((r : Int) - 1) = (q : Int) := by rw [show (r : Int) - 1 = (q : Int) by omega]; exact IntWalk.i64_in _ (by omega)
    have hz3 : (0 : Int) ≤ (q : Int) := by omega
    have hz4 : (q : Int) < (n : Int) := by omega
    have hrq : ((r : Int) == 0) = false := by rw [beq_eq_false_iff_ne]; omega
    rw [HM.out]
    clear hq hc hrow hpq hl hz hck h0
    go_enter Tryz.func52, Tryz.ntmps52
    try simp only [hgw]
    go_wp2
    clear hW1
    refine wp_region_held_drew (S := (fun w' : World => w'.cell? ⟨g, 0, none⟩ = some (.slice (some ad) n c) ∧ w'.cell? ⟨g, 1, none⟩ = some (.int .i64 b) ∧ w'.cell? ⟨g, 2, none⟩ = some (.int .i64 mq) ∧ w'.cell? (pd.add q) = some (.slice Bq mq cq) ∧ Below W1.heap.size W1 w')) (by kernel_rfl) ?_ ?_
    · first | exact hs2 | exact HS0.out
    intro hHeld
    refine wpAnyH_take (i := 0) (v := ?_) rfl (by kernel_rfl) (by kernel_rfl) (by kernel_rfl) (fun _ _ _ h => h) (Or.inl ⟨by rfl, ?_⟩) (by assumption) ?_
    rotate_left
    · intro w hSw; (try dsimp only at hSw); go_simp; (try (with_reducible rfl))
    try simp only [List.getElem_toArray, List.getElem_cons_succ, List.getElem_cons_zero, Act.put, List.setIfInBounds_toArray, List.set_cons_zero, List.set_cons_succ]
    refine wpAnyH_take (i := 1) (v := ?_) rfl (by kernel_rfl) (by kernel_rfl) (by kernel_rfl) (fun _ _ _ h => h) (Or.inl ⟨by rfl, ?_⟩) (by assumption) ?_
    rotate_left
    · intro w hSw; (try dsimp only at hSw); go_simp; (try (with_reducible rfl))
    try simp only [List.getElem_toArray, List.getElem_cons_succ, List.getElem_cons_zero, Act.put, List.setIfInBounds_toArray, List.set_cons_zero, List.set_cons_succ]
    refine wpAnyH_take (i := 2) (v := ?_) rfl (by kernel_rfl) (by kernel_rfl) (by kernel_rfl) (fun _ _ _ h => h) (Or.inl ⟨by rfl, ?_⟩) (by assumption) ?_
    rotate_left
    · intro w hSw; (try dsimp only at hSw); go_simp; (try (with_reducible rfl))
    try simp only [List.getElem_toArray, List.getElem_cons_succ, List.getElem_cons_zero, Act.put, List.setIfInBounds_toArray, List.set_cons_zero, List.set_cons_succ]
    refine wpAnyH_take (i := 3) (v := ?_) rfl (by kernel_rfl) (by kernel_rfl) (by kernel_rfl) (fun _ _ _ h => h) (Or.inl ⟨by rfl, ?_⟩) (by assumption) ?_
    rotate_left
    · intro w hSw; (try dsimp only at hSw); go_simp; (try (with_reducible rfl))
    try simp only [List.getElem_toArray, List.getElem_cons_succ, List.getElem_cons_zero, Act.put, List.setIfInBounds_toArray, List.set_cons_zero, List.set_cons_succ]
    refine wpAnyH_take (i := 4) (v := ?_) rfl (by kernel_rfl) (by kernel_rfl) (by kernel_rfl) (fun _ _ _ h => h) (Or.inl ⟨by rfl, ?_⟩) (by assumption) ?_
    rotate_left
    · intro w hSw; (try dsimp only at hSw); go_simp; (try (with_reducible rfl))
    try simp only [List.getElem_toArray, List.getElem_cons_succ, List.getElem_cons_zero, Act.put, List.setIfInBounds_toArray, List.set_cons_zero, List.set_cons_succ]
    refine wpAnyH_take (i := 5) (v := ?_) rfl (by kernel_rfl) (by kernel_rfl) (by kernel_rfl) (fun _ _ _ h => h) (Or.inl ⟨by rfl, ?_⟩) (by assumption) ?_
    rotate_left
    · intro w hSw; (try dsimp only at hSw); go_simp; (try (with_reducible rfl))
    try simp only [List.getElem_toArray, List.getElem_cons_succ, List.getElem_cons_zero, Act.put, List.setIfInBounds_toArray, List.set_cons_zero, List.set_cons_succ]
    refine wpAnyH_take (i := 6) (v := ?_) rfl (by kernel_rfl) (by kernel_rfl) (by kernel_rfl) (fun _ _ _ h => h) (Or.inl ⟨by rfl, ?_⟩) (by assumption) ?_
    rotate_left
    · intro w hSw; (try dsimp only at hSw); go_simp; (try (with_reducible rfl))
    try simp only [List.getElem_toArray, List.getElem_cons_succ, List.getElem_cons_zero, Act.put, List.setIfInBounds_toArray, List.set_cons_zero, List.set_cons_succ]
    refine wpAnyH_ready (rs := [7]) (by kernel_rfl) (by simp) ?_
    refine AllReadyH.cons rfl (fun K hK => ?_) AllReadyH.nil
    go_simp
    go_at_call 82; refine (CC.out _ hHeld).mono ?_; rintro e w2 ⟨rfl, hs2⟩
    go_wp2_with fail
    refine hK.out _ _ ?_ (fun hHeld => ?_)
    · clear hK K; first | exact hs2 | exact HS0.out
    clear hK K
    try simp only [List.getElem_toArray, List.getElem_cons_succ, List.getElem_cons_zero, Act.put, List.setIfInBounds_toArray, List.set_cons_zero, List.set_cons_succ]
    refine wpAnyH_take (i := 8) (v := ?_) rfl (by kernel_rfl) (by kernel_rfl) (by kernel_rfl) (fun _ _ _ h => h) (Or.inl ⟨by rfl, ?_⟩) (by assumption) ?_
    rotate_left
    · intro w hSw; (try dsimp only at hSw); go_simp; (try (with_reducible rfl))
    try simp only [List.getElem_toArray, List.getElem_cons_succ, List.getElem_cons_zero, Act.put, List.setIfInBounds_toArray, List.set_cons_zero, List.set_cons_succ]
    refine wpAnyH_take (i := 9) (v := ?_) rfl (by kernel_rfl) (by kernel_rfl) (by kernel_rfl) (fun _ _ _ h => h) (Or.inl ⟨by rfl, ?_⟩) (by assumption) ?_
    rotate_left
    · intro w hSw; (try dsimp only at hSw); go_simp; (try (with_reducible rfl))
    try simp only [List.getElem_toArray, List.getElem_cons_succ, List.getElem_cons_zero, Act.put, List.setIfInBounds_toArray, List.set_cons_zero, List.set_cons_succ]
    refine wpAnyH_take (i := 10) (v := ?_) rfl (by kernel_rfl) (by kernel_rfl) (by kernel_rfl) (fun _ _ _ h => h) (Or.inl ⟨by rfl, ?_⟩) (by assumption) ?_
    rotate_left
    · intro w hSw; (try dsimp only at hSw); go_simp; (try (with_reducible rfl))
    try simp only [List.getElem_toArray, List.getElem_cons_succ, List.getElem_cons_zero, Act.put, List.setIfInBounds_toArray, List.set_cons_zero, List.set_cons_succ]
    refine wpAnyH_take (i := 11) (v := ?_) rfl (by kernel_rfl) (by kernel_rfl) (by kernel_rfl) (fun _ _ _ h => h) (Or.inl ⟨by rfl, ?_⟩) (by assumption) ?_
    rotate_left
    · intro w hSw; (try dsimp only at hSw); go_simp; (try (with_reducible rfl))
    try simp only [List.getElem_toArray, List.getElem_cons_succ, List.getElem_cons_zero, Act.put, List.setIfInBounds_toArray, List.set_cons_zero, List.set_cons_succ]
    refine wpAnyH_take (i := 12) (v := ?_) rfl (by kernel_rfl) (by kernel_rfl) (by kernel_rfl) (fun _ _ _ h => h) (Or.inl ⟨by rfl, ?_⟩) (by assumption) ?_
    rotate_left
    · intro w hSw; (try dsimp only at hSw); go_simp; (try (with_reducible rfl))
    try simp only [List.getElem_toArray, List.getElem_cons_succ, List.getElem_cons_zero, Act.put, List.setIfInBounds_toArray, List.set_cons_zero, List.set_cons_succ]
    refine wpAnyH_done (by kernel_rfl) ?_ _
    obtain ⟨_, _, _, _, hbl⟩ := hHeld
    have HBL := Lib.hid hbl
    clear hbl HS0 CC hz1 hs2 n0 n1 n2 r1 r2
    go_wp2
    go_ret
    rw [← HGW.out]
    exact ⟨rfl, HB0.out.trans (HBL.out.mono HB0.out.size)⟩

end Go.Proofs.YtjjflbnopphciaaGreatDoor

namespace Go.Proofs.YtjjflbnopphciaaGreatDoor
open Go.RowKit

set_option maxRecDepth 100000 in
set_option maxHeartbeats 1000000 in
theorem sliceMin_any (A : Option Addr) (n c : Nat) (xs : List Int) (w : World) (hr : RdI w A n xs) (hn : 0 < n ∧ n ≤ 1000000) :
    Calls Tryz.prog 54 #[.slice A n c] w fun e w' => e = .returned (.int .i64 (minK xs n)) ∧ w = w' := by
  obtain ⟨ad, rfl, _, hc⟩ := hr.2 hn.1
  have c0 := hc 0 hn.1
  rw [addZ] at c0
  have HC := Lib.hid hc
  have h1 : ¬ (n : Int) < 1 := by omega
  have hnI : (0 : Int) < (n : Int) := by omega
  have HM1 := Lib.hid (minK_one xs)
  obtain ⟨x0, hx0⟩ : ∃ x, xs.getD 0 0 = x := ⟨_, rfl⟩
  rw [hx0] at c0 HM1
  have hn0 : 0 < n := hn.1
  have hnb : n ≤ 1000000 := hn.2
  clear hr hc hn hx0
  go_enter Tryz.func54, Tryz.ntmps54
  go_wp2
  go_loop [3, 4] (fun v i => ∃ k : Nat, 1 ≤ k ∧ k ≤ n ∧ i = .int .i64 (k : Int) ∧ v = .int .i64 (minK xs k)) (fun _ i => n - (intOf i).toNat)
  case atStart => exact ⟨1, by omega, by omega, rfl, by rw [HM1.out]⟩
  case round =>
    obtain ⟨k, hk1, hk, rfl, rfl⟩ := hrel
    by_cases hlt : k < n
    · have hkI : (k : Int) < (n : Int) := by omega
      have hk0 : (0 : Int) ≤ (k : Int) := by omega
      have ck := HC.out k hlt
      have HS : Hid (minK xs (k + 1) = min (minK xs k) (xs.getD k 0)) := rfl
      obtain ⟨x, hx⟩ : ∃ x, xs.getD k 0 = x := ⟨_, rfl⟩
      obtain ⟨M, hM⟩ : ∃ M, minK xs k = M := ⟨_, rfl⟩
      rw [hx] at ck HS
      rw [hM] at HS ⊢
      clear hx hM
      by_cases hl : x < M
      · have HS2 : Hid (minK xs (k + 1) = x) := by show _ = _; rw [HS.out]; omega
        go_wp2
        go_round
        case rel => exact ⟨k + 1, by omega, by omega, by go_num, by rw [HS2.out]⟩
        case measure => simp [intOf]; omega
      · have HS2 : Hid (minK xs (k + 1) = M) := by show _ = _; rw [HS.out]; omega
        go_wp2
        go_round
        case rel => exact ⟨k + 1, by omega, by omega, by go_num, by rw [HS2.out]⟩
        case measure => simp [intOf]; omega
    · obtain rfl : n = k := by omega
      go_wp2
      go_ret
      exact ⟨rfl, rfl⟩

end Go.Proofs.YtjjflbnopphciaaGreatDoor

namespace Go.Proofs.YtjjflbnopphciaaGreatDoor
open Go.RowKit

set_option maxRecDepth 100000 in
set_option maxHeartbeats 1000000 in
theorem CheckPrices_err (A : Option Addr) (n c : Nat) (rows : List (List Int)) (b : Int) (PA : Option Addr) (k cp : Nat) (w : World) (hr : RdG w A n rows) (hn : n ≤ 1000000) (hE : taskE rows b ≠ 0) :
    Calls Tryz.prog 24 #[.agg #[.slice A n c, .int .i64 b], .slice PA k cp] w fun e w' => e = .returned (.tuple #[.int .i64 0, .int .i64 (taskE rows b)]) ∧ Below w.heap.size w w' := by
  have hb0 : Below w.heap.size w (w.alloc (.cells #[.slice A n c, .int .i64 b] 55)) := (Below.refl _ w).alloc (Nat.le_refl _) _
  have CC := Lib.hid (checked_err A n c rows b _ (hr.below hb0) (by omega) hE)
  have HB0 := Lib.hid hb0
  obtain ⟨E, hEe⟩ : ∃ E, taskE rows b = E := ⟨_, rfl⟩
  rw [hEe] at CC hE ⊢
  have h1 : (E != 0) = true := by simpa using hE
  clear hr hb0 hE hEe
  go_enter Tryz.func24, Tryz.ntmps24
  go_wp2_with fail
  refine CC.out.mono ?_
  rintro e w1 ⟨rfl, hb1⟩
  have HB1 : Hid (Below w.heap.size w w1) := HB0.out.trans (hb1.mono HB0.out.size)
  clear hb1 CC
  go_wp2
  go_ret2
  exact ⟨rfl, HB1.out.alloc HB1.out.size _⟩

set_option maxRecDepth 100000 in
set_option maxHeartbeats 1000000 in
theorem CheckPrices_len (ad : Addr) (n c m c' : Nat) (B : Option Addr) (rows : List (List Int)) (b : Int) (PA : Option Addr) (k cp : Nat) (p : List (List Int)) (w : World) (hr : RdG w (some ad) n rows) (hn : 0 < n ∧ n ≤ 1000000) (hm : 0 < m ∧ m ≤ 1000000) (hadb : ad.block < w.heap.size) (hck : w.cell? ad = some (.slice B m c')) (hp : RdG w PA k p) (hk : k ≤ 1000000) (hE : taskE rows b = 0) (hkn : k ≠ n) :
    Calls Tryz.prog 24 #[.agg #[.slice (some ad) n c, .int .i64 b], .slice PA k cp] w fun e w' => e = .returned (.tuple #[.int .i64 0, .int .i64 10]) ∧ Below w.heap.size w w' := by
  have hb0 : Below w.heap.size w (w.alloc (.cells #[.slice (some ad) n c, .int .i64 b] 55)) := (Below.refl _ w).alloc (Nat.le_refl _) _
  have CC := Lib.hid (checked_ok ad n c m c' B rows b _ (hr.below hb0) (by omega) (Nat.lt_of_lt_of_le hadb hb0.size) ((hb0.cell hadb).trans hck) hn.1 hE)
  have HR := Lib.hid (hr.below hb0)
  have HP := Lib.hid (hp.below hb0)
  have HB0 := Lib.hid hb0
  have hne : ((k : Int) != (n : Int)) = true := by rw [bne_iff_ne]; omega
  clear hr hb0 hck hp hE hkn
  go_enter Tryz.func24, Tryz.ntmps24
  go_wp2_with fail
  refine CC.out.mono ?_
  rintro e w1 ⟨rfl, hb1⟩
  have HB1 : Hid (Below w.heap.size w w1) := HB0.out.trans (hb1.mono HB0.out.size)
  have hb2 : Below w1.heap.size w1 (w1.alloc (.cells #[.slice (some ad) n c, .int .i64 b, .int .i64 m] 104)) := (Below.refl _ _).alloc (Nat.le_refl _) _
  have HR1 := Lib.hid ((HR.out.below hb1).below hb2)
  have HP1 := Lib.hid ((HP.out.below hb1).below hb2)
  have HN := Lib.hid (Bk.new w1 104 #[.slice (some ad) n c, .int .i64 b, .int .i64 m])
  have HB2 : Hid (Below w.heap.size w (w1.alloc (.cells #[.slice (some ad) n c, .int .i64 b, .int .i64 m] 104))) := HB1.out.trans (hb2.mono HB1.out.size)
  clear hb1 hb2 CC HR HP HB0
  go_wp2
  go_ret2
  exact ⟨rfl, HB2.out⟩

set_option maxRecDepth 100000 in
set_option maxHeartbeats 1000000 in
theorem CheckPrices_rows (ad : Addr) (n c m c' : Nat) (B : Option Addr) (rows : List (List Int)) (b : Int) (PA : Option Addr) (k cp : Nat) (p : List (List Int)) (w : World) (hr : RdG w (some ad) n rows) (hn : 0 < n ∧ n ≤ 1000000) (hm : 0 < m ∧ m ≤ 1000000) (hadb : ad.block < w.heap.size) (hck : w.cell? ad = some (.slice B m c')) (hp : RdG w PA k p) (hk : k ≤ 1000000) (hE : taskE rows b = 0) (hkn : k = n) (E : Int) (hre : rowsE m (-1000000) 1000000 p = E) (h0 : E ≠ 0) :
    Calls Tryz.prog 24 #[.agg #[.slice (some ad) n c, .int .i64 b], .slice PA k cp] w fun e w' => e = .returned (.tuple #[.int .i64 0, .int .i64 E]) ∧ Below w.heap.size w w' := by
  subst hkn
  have hb0 : Below w.heap.size w (w.alloc (.cells #[.slice (some ad) k c, .int .i64 b] 55)) := (Below.refl _ w).alloc (Nat.le_refl _) _
  have CC := Lib.hid (checked_ok ad k c m c' B rows b _ (hr.below hb0) (by omega) (Nat.lt_of_lt_of_le hadb hb0.size) ((hb0.cell hadb).trans hck) hn.1 hE)
  have HR := Lib.hid (hr.below hb0)
  have HP := Lib.hid (hp.below hb0)
  have HB0 := Lib.hid hb0
  have hne : ((k : Int) != (k : Int)) = false := bne_self_eq_false' _
  have h1 : (E != 0) = true := by simpa using h0
  have HRE := Lib.hid hre
  clear hr hb0 hck hp hE hre h0
  go_enter Tryz.func24, Tryz.ntmps24
  go_wp2_with fail
  refine CC.out.mono ?_
  rintro e w1 ⟨rfl, hb1⟩
  have HB1 : Hid (Below w.heap.size w w1) := HB0.out.trans (hb1.mono HB0.out.size)
  have hb2 : Below w1.heap.size w1 (w1.alloc (.cells #[.slice (some ad) k c, .int .i64 b, .int .i64 m] 104)) := (Below.refl _ _).alloc (Nat.le_refl _) _
  have HR1 := Lib.hid ((HR.out.below hb1).below hb2)
  have HP1 := Lib.hid ((HP.out.below hb1).below hb2)
  have HN := Lib.hid (Bk.new w1 104 #[.slice (some ad) k c, .int .i64 b, .int .i64 m])
  have HB2 : Hid (Below w.heap.size w (w1.alloc (.cells #[.slice (some ad) k c, .int .i64 b, .int .i64 m] 104))) := HB1.out.trans (hb2.mono HB1.out.size)
  clear hb1 hb2 CC HR HP HB0
  go_wp2_with fail
  refine (checkRowsP_any PA k cp p m (-1000000) 1000000 _ HP1.out (by omega)).mono ?_
  rintro e w' ⟨rfl, rfl⟩
  rw [HRE.out]
  go_wp2
  go_ret2
  exact ⟨rfl, HB2.out⟩

set_option maxRecDepth 100000 in
set_option maxHeartbeats 4000000 in
theorem CheckPrices_in (ad : Addr) (n c m c' : Nat) (B : Option Addr) (rows : List (List Int)) (b : Int) (PA : Option Addr) (cp : Nat) (p : List (List Int)) (w : World) (hr : RdG w (some ad) n rows) (hn : 0 < n ∧ n ≤ 1000000) (hm : 0 < m ∧ m ≤ 1000000) (hadb : ad.block < w.heap.size) (hck : w.cell? ad = some (.slice B m c')) (hp : RdG w PA n p) (hE : taskE rows b = 0) (hre : rowsE m (-1000000) 1000000 p = 0) (hbb : 0 ≤ b ∧ b ≤ 1000) (hg : ∀ r ∈ rows, r.length = m ∧ ∀ x ∈ r, 0 ≤ x ∧ x ≤ 255) (E v : Int) (hEe : firstF (rowF rows b m p) n = E) (hv : (if E = 0 then boundF p else 0) = v) :
    Calls Tryz.prog 24 #[.agg #[.slice (some ad) n c, .int .i64 b], .slice PA n cp] w fun e w' => e = .returned (.tuple #[.int .i64 v, .int .i64 E]) ∧ Below w.heap.size w w' := by
  have hb0 : Below w.heap.size w (w.alloc (.cells #[.slice (some ad) n c, .int .i64 b] 55)) := (Below.refl _ w).alloc (Nat.le_refl _) _
  have CC := Lib.hid (checked_ok ad n c m c' B rows b _ (hr.below hb0) (by omega) (Nat.lt_of_lt_of_le hadb hb0.size) ((hb0.cell hadb).trans hck) hn.1 hE)
  have HR := Lib.hid (hr.below hb0)
  have HP := Lib.hid (hp.below hb0)
  have HB0 := Lib.hid hb0
  have hne : ((n : Int) != (n : Int)) = false := bne_self_eq_false' _
  have HRE := Lib.hid hre
  have hpg : ∀ r ∈ p, r.length = m ∧ ∀ x ∈ r, -1000000 ≤ x ∧ x ≤ 1000000 := fun r hr => ⟨(rowsE_zero hre r hr).1, fromB_all (rowsE_zero hre r hr).2⟩
  have HPG := Lib.hid hpg
  have HG := Lib.hid hg
  have HBB := Lib.hid hbb
  have HEE := Lib.hid hEe
  have HVV := Lib.hid hv
  have HPL : Hid (p.length = n) := hp.1
  have hnb : n ≤ 1000000 := hn.2
  have hn0 : 0 < n := hn.1
  have hmb : m ≤ 1000000 := hm.2
  have hm0 : 0 < m := hm.1
  clear hr hb0 hck hp hE hre hpg hg hbb hEe hv hn hm hadb
  go_enter Tryz.func24, Tryz.ntmps24
  go_wp2_with fail
  refine CC.out.mono ?_
  rintro e w1 ⟨rfl, hb1⟩
  have HB1 : Hid (Below w.heap.size w w1) := HB0.out.trans (hb1.mono HB0.out.size)
  have hb2 : Below w1.heap.size w1 (w1.alloc (.cells #[.slice (some ad) n c, .int .i64 b, .int .i64 m] 104)) := (Below.refl _ _).alloc (Nat.le_refl _) _
  have HR1 := Lib.hid ((HR.out.below hb1).below hb2)
  have HP1 := Lib.hid ((HP.out.below hb1).below hb2)
  have HN := Lib.hid (Bk.new w1 104 #[.slice (some ad) n c, .int .i64 b, .int .i64 m])
  have HB2 : Hid (Below w.heap.size w (w1.alloc (.cells #[.slice (some ad) n c, .int .i64 b, .int .i64 m] 104))) := HB1.out.trans (hb2.mono HB1.out.size)
  clear hb1 hb2 CC HR HP HB0
  go_wp2_with fail
  refine (checkRowsP_any PA n cp p m (-1000000) 1000000 _ HP1.out (by omega)).mono ?_
  rintro e w' ⟨rfl, rfl⟩
  rw [HRE.out]
  go_wp2
  obtain ⟨g, hgw⟩ : ∃ g, w1.heap.size = g := ⟨_, rfl⟩
  rw [hgw] at HN
  obtain ⟨W1, hW1⟩ : ∃ W, w1.alloc (.cells #[.slice (some ad) n c, .int .i64 b, .int .i64 m] 104) = W := ⟨_, rfl⟩
  rw [hW1] at HR1 HP1 HN HB2 ⊢
  try rw [hgw]
  clear hW1 hgw hne
  go_loopw [38] (fun i wr => ∃ r : Nat, r ≤ n ∧ i = .int .i64 (r : Int) ∧ Hid (firstF (rowF rows b m p) r = 0) ∧ Hid (Below W1.heap.size W1 wr)) (fun i _ => n - (intOf i).toNat)
  case atStart => exact ⟨0, Nat.zero_le _, rfl, rfl, Below.refl _ _⟩
  case round =>
    obtain ⟨r, hr, rfl, HF, HX⟩ := hrel
    obtain ⟨wo, hwo⟩ : ∃ W, W = wr := ⟨_, rfl⟩
    subst hwo
    by_cases hlt : r < n
    · have hrI : (r : Int) < (n : Int) := by omega
      have hr0 : (0 : Int) ≤ (r : Int) := by omega
      obtain ⟨pd, hPA, hpdb, hc⟩ := (HP1.out.below HX.out).2 (by omega)
      subst hPA
      obtain ⟨Br, mr, cr, hck, hrow, _⟩ := hc r hlt
      have hpr := HPG.out _ (getD_in p r [] (by rw [HPL.out]; exact hlt))
      obtain rfl : mr = m := by rw [← hrow.1, hpr.1]
      obtain ⟨bd, rfl, hbdb, hcb⟩ := hrow.2 hm0
      have HROW := Lib.hid hrow
      clear hc hpr hcb
      go_wp2
      clear hck
      go_loopw [46] (fun i wq => ∃ q : Nat, q ≤ mr ∧ i = .int .i64 (q : Int) ∧ Hid (firstF (cellF rows b mr p r) q = 0) ∧ Hid (Below W1.heap.size W1 wq ∧ Below wo.heap.size wo wq)) (fun i _ => mr - (intOf i).toNat)
      case atStart => exact ⟨0, Nat.zero_le _, rfl, rfl, HX.out, Below.refl _ _⟩
      case round =>
        obtain ⟨q, hq, rfl, HFC, HY⟩ := hrel
        obtain ⟨wi, hwi⟩ : ∃ W, W = wr := ⟨_, rfl⟩
        subst hwi
        by_cases hqm : q < mr
        · have hqI : (q : Int) < (mr : Int) := by omega
          have hq0 : (0 : Int) ≤ (q : Int) := by omega
          have qn := HN.out.later HY.out.1
          have n0 : wi.cell? ⟨g, 0, none⟩ = some (.slice (some ad) n c) := by rw [qn.cell]; rfl
          have n1 : wi.cell? ⟨g, 1, none⟩ = some (.int .i64 b) := by rw [qn.cell]; rfl
          have n2 : wi.cell? ⟨g, 2, none⟩ = some (.int .i64 mr) := by rw [qn.cell]; rfl
          obtain ⟨bd', e1, _, hcb⟩ := (HROW.out.below HY.out.2).2 hm0
          cases e1
          have cx := hcb q hqm
          have C := Lib.hid (maxPrice_any ad n c mr rows b (some pd) cp p r q wi (HR1.out.below HY.out.1) (HP1.out.below HY.out.1) hnb hmb hlt hqm HBB.out HG.out HPG.out)
          have HCF : Hid (cellF rows b mr p r q = if mpF rows b mr p r q < cellV p r q then 19 else 0) := rfl
          obtain ⟨x, hx⟩ : ∃ x, (p.getD r []).getD q 0 = x := ⟨_, rfl⟩
          have hxv : cellV p r q = x := hx
          obtain ⟨M, hM⟩ : ∃ M, mpF rows b mr p r q = M := ⟨_, rfl⟩
          rw [hx] at cx
          rw [hxv, hM] at HCF
          rw [hM] at C
          clear qn hcb hx hxv hM
          by_cases hgt : M < x
          · have HE2 : Hid (E = 19 ∧ v = 0) := by
              have h1 : rowF rows b mr p r = 19 := firstF_stop HFC.out (HCF.out.trans (if_pos hgt)) (by decide) hqm
              have h2 := firstF_stop HF.out h1 (by decide) hlt
              rw [HEE.out] at h2
              exact ⟨h2, by rw [← HVV.out, if_neg (by omega)]⟩
            go_wp2_with fail
            refine C.out.mono ?_
            rintro e w3 ⟨rfl, hb3⟩
            have HX3 : Hid (Below w.heap.size w w3) := (HB2.out.trans (HY.out.1.mono HB2.out.size)).trans (hb3.mono (HB2.out.trans (HY.out.1.mono HB2.out.size)).size)
            clear hb3 C n0 n1 n2 cx
            go_wp2
            go_ret2
            rw [HE2.out.1, HE2.out.2]
            exact ⟨rfl, HX3.out⟩
          · have HF2 : Hid (firstF (cellF rows b mr p r) (q + 1) = 0) := by show _ = _; rw [firstF_step HFC.out, HCF.out, if_neg hgt]
            go_wp2_with fail
            refine C.out.mono ?_
            rintro e w3 ⟨rfl, hb3⟩
            have HY3 : Hid (Below W1.heap.size W1 w3 ∧ Below wo.heap.size wo w3) := ⟨HY.out.1.trans (hb3.mono HY.out.1.size), HY.out.2.trans (hb3.mono HY.out.2.size)⟩
            clear hb3 C n0 n1 n2 cx
            go_wp2
            go_roundw
            case rel => exact ⟨q + 1, by omega, by go_num, HF2.out, HY3.out⟩
            case measure => simp [intOf]; omega
        · obtain rfl : mr = q := by omega
          have HF2 : Hid (firstF (rowF rows b mr p) (r + 1) = 0) := by show _ = _; rw [firstF_step HF.out]; exact HFC.out
          go_wp2
          go_roundw
          case rel => exact ⟨r + 1, by omega, by go_num, HF2.out, HY.out.1⟩
          case measure => simp [intOf]; omega
    · obtain rfl : n = r := by omega
      have HE2 : Hid (E = 0 ∧ v = boundF p) := by
        have h := HF.out
        rw [HEE.out] at h
        exact ⟨h, by rw [← HVV.out, if_pos h]⟩
      obtain ⟨q, hq⟩ : ∃ q, n = q + 1 := ⟨n - 1, by omega⟩
      obtain ⟨pd, hPA, hpdb, hc⟩ := (HP1.out.below HX.out).2 (by omega)
      subst hPA
      obtain ⟨Br, mr, cr, hck, hrow, _⟩ := hc q (by omega)
      have hpr := HPG.out _ (getD_in p q [] (by rw [HPL.out]; omega))
      obtain rfl : mr = m := by rw [← hrow.1, hpr.1]
      have C := Lib.hid (sliceMin_any Br mr cr (p.getD q []) wo hrow ⟨hm0, hmb⟩)
      have HBD : Hid (boundF p = minK (p.getD q []) mr) := by show _ = _; unfold boundF; rw [HPL.out, show n - 1 = q by omega, hpr.1]
      have hz1 : IntKind.i64.wrap ((n : Int) - 1) = (q : Int) := by rw [show (n : Int) - 1 = (q : Int) by omega]; exact IntWalk.i64_in _ (by omega)
      have hz2 : (n : Int) - 1 = (q : Int) := by omega
      have hz3 : (0 : Int) ≤ (q : Int) := by omega
      have hz4 : (q : Int) < (n : Int) := by omega
      clear hc hrow hpr hq
      go_wp2_with fail
      refine C.out.mono ?_
      rintro e w' ⟨rfl, rfl⟩
      go_wp2
      go_ret2
      rw [HE2.out.1, HE2.out.2, HBD.out]
      exact ⟨rfl, HB2.out.trans (HX.out.mono HB2.out.size)⟩

def cpE (rows : List (List Int)) (b : Int) (n : Nat) (p : List (List Int)) : Int := if taskE rows b = 0 then pricesE rows b n (colsOf rows) p else taskE rows b
theorem CheckPrices_any (A : Option Addr) (n c : Nat) (rows : List (List Int)) (b : Int) (PA : Option Addr) (k cp : Nat) (p : List (List Int)) (w : World) (hr : RdG w A n rows) (hn : n ≤ 1000000) (hp : RdG w PA k p) (hk : k ≤ 1000000) :
    Calls Tryz.prog 24 #[.agg #[.slice A n c, .int .i64 b], .slice PA k cp] w fun e w' => e = .returned (.tuple #[.int .i64 (if cpE rows b n p = 0 then boundF p else 0), .int .i64 (cpE rows b n p)]) ∧ Below w.heap.size w w' := by
  by_cases hE : taskE rows b = 0
  · obtain ⟨ad, m, c', B, rfl, hcm, h0, h40, hm0, hm12, hadb, hck, hbb, hg⟩ := task_parts hr hE
    have hc : cpE rows b n p = pricesE rows b n m p := by unfold cpE; rw [if_pos hE, hcm]
    rw [hc]
    by_cases hkn : k = n
    · subst hkn
      have hpl := hp.1
      by_cases hre : rowsE m (-1000000) 1000000 p = 0
      · have e : pricesE rows b k m p = firstF (rowF rows b m p) k := by unfold pricesE; rw [if_pos hpl, if_pos hre]
        rw [e]
        exact CheckPrices_in ad k c m c' B rows b PA cp p w hr ⟨h0, hn⟩ ⟨hm0, by omega⟩ hadb hck hp hE hre hbb hg _ _ rfl rfl
      · have e : pricesE rows b k m p = rowsE m (-1000000) 1000000 p := by unfold pricesE; rw [if_pos hpl, if_neg hre]
        rw [e, if_neg hre]
        exact CheckPrices_rows ad k c m c' B rows b PA k cp p w hr ⟨h0, hn⟩ ⟨hm0, by omega⟩ hadb hck hp hk hE rfl _ rfl hre
    · have e : pricesE rows b n m p = 10 := by unfold pricesE; rw [if_neg (by rw [hp.1]; exact hkn)]
      rw [e, if_neg (by decide)]
      exact CheckPrices_len ad n c m c' B rows b PA k cp p w hr ⟨h0, hn⟩ ⟨hm0, by omega⟩ hadb hck hp hk hE hkn
  · have hc : cpE rows b n p = taskE rows b := by unfold cpE; rw [if_neg hE]
    rw [hc, if_neg hE]
    exact CheckPrices_err A n c rows b PA k cp w hr hn hE

end Go.Proofs.YtjjflbnopphciaaGreatDoor

namespace Go.Proofs.YtjjflbnopphciaaGreatDoor
open Go.RowKit


def velE (xs : List Int) : Int := turnErr xs
def velX (xs : List Int) : List Int := if turnErr xs = 0 then velL xs else []
theorem padV_set (xs : List Int) (k m : Nat) (h : k < xs.length - 1) : True := trivial

set_option maxRecDepth 100000 in
set_option maxHeartbeats 2000000 in
theorem VelocitiesOf_any (A : Option Addr) (n c : Nat) (xs : List Int) (w : World) (hr : RdI w A n xs) (hn : n ≤ 1000000) :
    Calls Tryz.prog 29 #[.slice A n c] w (OwnRes w (turnErr xs) (velX xs)) := by
  have C := Lib.hid (checkTurn_any A n c xs w hr (by omega))
  by_cases hE : turnErr xs = 0
  · have hX : velX xs = velL xs := by unfold velX; rw [if_pos hE]
    have hp : posE xs = 0 ∧ xs.length ≠ 0 := by
      unfold turnErr at hE
      by_cases h0 : posE xs = 0
      · rw [if_pos h0] at hE
        refine ⟨h0, fun h1 => ?_⟩
        rw [if_pos h1] at hE; omega
      · rw [if_neg h0] at hE; exact absurd hE h0
    obtain ⟨hlen, hsm⟩ := pos_ok hp.1
    rw [hX, hE]
    rw [hE] at C
    have hl := hr.1
    obtain ⟨ad, rfl, hadb, hc⟩ := hr.2 (by omega)
    have HC := Lib.hid hc
    have HSM := Lib.hid hsm
    have HLN := Lib.hid hl
    have hmi := make_ints (n - 1) (by omega)
    obtain ⟨m, rfl⟩ : ∃ m, n = m + 1 := ⟨n - 1, by omega⟩
    rw [Nat.add_sub_cancel] at hmi
    have hm1 : IntKind.i64.wrap (m : Int) = (m : Int) := IntWalk.i64_in _ (by omega)
    have hm2 : IntKind.i64.wrap (((m + 1 : Nat) : Int) - 1) = (m : Int) := by rw [show ((m + 1 : Nat) : Int) - 1 = (m : Int) by omega]; exact hm1
    have hvl : velL xs = velTo xs m := by unfold velL velTo; rw [hl, Nat.add_sub_cancel]
    rw [hvl]
    clear hE hX hp hr hc hsm hl hvl hlen
    go_enter Tryz.func29, Tryz.ntmps29
    go_wp2_with (go_at_call 59; refine C.out.mono ?_; rintro e w' ⟨rfl, rfl⟩)
    go_loopw [18] (fun i wr => ∃ k : Nat, k ≤ m ∧ i = .int .i64 k ∧ Hid (Bk wr w.heap.size 3 (iArr (padR (velTo xs m) k m)) ∧ Below w.heap.size w wr)) (fun i _ => m - (intOf i).toNat)
    case atStart => exact ⟨0, Nat.zero_le _, rfl, by rw [padR_zero]; exact Bk.new w _ _, (Below.refl _ w).alloc (Nat.le_refl _) _⟩
    case round =>
      obtain ⟨k, hk, rfl, HI⟩ := hrel
      by_cases hlt : k < m
      · have hkI : (k : Int) < (m : Int) := by omega
        have h1 := (HI.out.2.cell (p := ad.add k) (by rw [addBlock]; exact hadb)).trans (HC.out k (by omega))
        have h2 := (HI.out.2.cell (p := ad.add (k + 1)) (by rw [addBlock]; exact hadb)).trans (HC.out (k + 1) (by omega))
        have hx := HSM.out.at_ k
        have hy := HSM.out.at_ (k + 1)
        have hset := padR_set (velTo xs m) k m
        have hat : (velTo xs m).getD k 0 = xs.getD (k + 1) 0 - xs.getD k 0 := by simp [velTo, List.getD_eq_getElem?_getD, hlt]
        rw [hat] at hset
        obtain ⟨x, hxe⟩ : ∃ x, xs.getD k 0 = x := ⟨_, rfl⟩
        obtain ⟨y, hye⟩ : ∃ y, xs.getD (k + 1) 0 = y := ⟨_, rfl⟩
        rw [hxe] at h1 hx hset
        rw [hye] at h2 hy hset
        have HSET := Lib.hid hset
        have hg : wr.cell? ⟨w.heap.size, k, none⟩ = some (.int .i64 ((padR (velTo xs m) k m).getD k 0)) := by rw [HI.out.1.cell]; exact iArr_at _ _ (by rw [padR_length]; exact hlt)
        have hf : wr.frozen? ⟨w.heap.size, k, none⟩ = false := HI.out.1.frozen k
        obtain ⟨o, ho⟩ : ∃ o, (padR (velTo xs m) k m).getD k 0 = o := ⟨_, rfl⟩
        rw [ho] at hg
        obtain ⟨k1, hk1⟩ : ∃ k1, k1 = k + 1 := ⟨_, rfl⟩
        rw [← hk1] at h2
        have hne : (ad.add k1).block ≠ w.heap.size := by rw [addBlock]; omega
        have hne2 : (ad.add k).block ≠ w.heap.size := by rw [addBlock]; omega
        have HS0 : Hid ((fun w' : World => w'.cell? (ad.add k1) = some (.int .i64 y) ∧ w'.cell? (ad.add k) = some (.int .i64 x)) wr.drew) := ⟨h2, h1⟩
        have HS1 : Hid ((fun w' : World => w'.cell? (ad.add k1) = some (.int .i64 y) ∧ w'.cell? (ad.add k) = some (.int .i64 x)) ((wr.setCell ⟨w.heap.size, k, none⟩ (.int .i64 (y - x))).drew)) := by
          refine ⟨?_, ?_⟩
          · show World.cell? (wr.setCell _ _) _ = _
            rw [World.cell?_setCell_far _ _ _ _ (fun e => hne e.symm)]; exact h2
          · show World.cell? (wr.setCell _ _) _ = _
            rw [World.cell?_setCell_far _ _ _ _ (fun e => hne2 e.symm)]; exact h1
        have hz2 : IntKind.i64.wrap ((k : Int) + 1) = (k1 : Int) := by rw [show (k : Int) + 1 = (k1 : Int) by omega]; exact IntWalk.i64_in _ (by omega)
        have hz3 : (0 : Int) ≤ (k1 : Int) := by omega
        have hz4 : True := trivial
        have hz5 : (k1 : Int) < (m : Int) + 1 := by omega
        have hz6 : (k : Int) < (m : Int) + 1 := by omega
        have hz7 : IntKind.i64.wrap (y - x) = y - x := IntWalk.i64_in _ (by omega)
        have HF : Hid (Bk ((wr.setCell ⟨w.heap.size, k, none⟩ (.int .i64 (y - x))).drew) w.heap.size 3 (iArr (padR (velTo xs m) (k + 1) m)) ∧ Below w.heap.size w ((wr.setCell ⟨w.heap.size, k, none⟩ (.int .i64 (y - x))).drew)) := by
          refine ⟨?_, (HI.out.2.setCell (p := ⟨w.heap.size, k, none⟩) (Nat.le_refl _) _).drew⟩
          have := (HI.out.1.set_ k (.int .i64 (y - x))).drew
          rw [iArr_set, HSET.out] at this
          exact this
        clear hxe hye ho hset hat h1 h2 hne hne2 hk1
        go_wp2_with fail
        refine wp_region_held_drew (S := (fun w' : World => w'.cell? (ad.add k1) = some (.int .i64 y) ∧ w'.cell? (ad.add k) = some (.int .i64 x))) (by kernel_rfl) ?_ ?_
        · first | exact HS0.out | exact HS1.out
        intro hHeld
        refine wpAnyH_take (i := 0) (v := ?_) rfl (by kernel_rfl) (by kernel_rfl) (by kernel_rfl) (fun _ _ _ h => h) (Or.inl ⟨by rfl, ?_⟩) (by assumption) ?_
        rotate_left
        · intro w hSw; (try dsimp only at hSw); go_simp; (try (with_reducible rfl))
        try simp only [List.getElem_toArray, List.getElem_cons_succ, List.getElem_cons_zero, Act.put, List.setIfInBounds_toArray, List.set_cons_zero, List.set_cons_succ]
        refine wpAnyH_take (i := 1) (v := ?_) rfl (by kernel_rfl) (by kernel_rfl) (by kernel_rfl) (fun _ _ _ h => h) (Or.inl ⟨by rfl, ?_⟩) (by assumption) ?_
        rotate_left
        · intro w hSw; (try dsimp only at hSw); go_simp; (try (with_reducible rfl))
        try simp only [List.getElem_toArray, List.getElem_cons_succ, List.getElem_cons_zero, Act.put, List.setIfInBounds_toArray, List.set_cons_zero, List.set_cons_succ]
        refine wpAnyH_take (i := 2) (v := ?_) rfl (by kernel_rfl) (by kernel_rfl) (by kernel_rfl) (fun _ _ _ h => h) (Or.inl ⟨by rfl, ?_⟩) (by assumption) ?_
        rotate_left
        · intro w hSw; (try dsimp only at hSw); go_simp; (try (with_reducible rfl))
        try simp only [List.getElem_toArray, List.getElem_cons_succ, List.getElem_cons_zero, Act.put, List.setIfInBounds_toArray, List.set_cons_zero, List.set_cons_succ]
        refine wpAnyH_take (i := 3) (v := ?_) rfl (by kernel_rfl) (by kernel_rfl) (by kernel_rfl) (fun _ _ _ h => h) (Or.inl ⟨by rfl, ?_⟩) (by assumption) ?_
        rotate_left
        · intro w hSw; (try dsimp only at hSw); go_simp; (try (with_reducible rfl))
        try simp only [List.getElem_toArray, List.getElem_cons_succ, List.getElem_cons_zero, Act.put, List.setIfInBounds_toArray, List.set_cons_zero, List.set_cons_succ]
        refine wpAnyH_take (i := 4) (v := ?_) rfl (by kernel_rfl) (by kernel_rfl) (by kernel_rfl) (fun _ _ _ h => h) (Or.inl ⟨by rfl, ?_⟩) (by assumption) ?_
        rotate_left
        · intro w hSw; (try dsimp only at hSw); go_simp; (try (with_reducible rfl))
        try simp only [List.getElem_toArray, List.getElem_cons_succ, List.getElem_cons_zero, Act.put, List.setIfInBounds_toArray, List.set_cons_zero, List.set_cons_succ]
        refine wpAnyH_take (i := 5) (v := ?_) rfl (by kernel_rfl) (by kernel_rfl) (by kernel_rfl) (fun _ _ _ h => h) (Or.inl ⟨by rfl, ?_⟩) (by assumption) ?_
        rotate_left
        · intro w hSw; (try dsimp only at hSw); go_simp; (try (with_reducible rfl))
        try simp only [List.getElem_toArray, List.getElem_cons_succ, List.getElem_cons_zero, Act.put, List.setIfInBounds_toArray, List.set_cons_zero, List.set_cons_succ]
        refine wpAnyH_take (i := 6) (v := ?_) rfl (by kernel_rfl) (by kernel_rfl) (by kernel_rfl) (fun _ _ _ h => h) (Or.inl ⟨by rfl, ?_⟩) (by assumption) ?_
        rotate_left
        · intro w hSw; (try dsimp only at hSw); go_simp; (try (with_reducible rfl))
        try simp only [List.getElem_toArray, List.getElem_cons_succ, List.getElem_cons_zero, Act.put, List.setIfInBounds_toArray, List.set_cons_zero, List.set_cons_succ]
        refine wpAnyH_take (i := 7) (v := ?_) rfl (by kernel_rfl) (by kernel_rfl) (by kernel_rfl) (fun _ _ _ h => h) (Or.inl ⟨by rfl, ?_⟩) (by assumption) ?_
        rotate_left
        · intro w hSw; (try dsimp only at hSw); go_simp; (try (with_reducible rfl))
        try simp only [List.getElem_toArray, List.getElem_cons_succ, List.getElem_cons_zero, Act.put, List.setIfInBounds_toArray, List.set_cons_zero, List.set_cons_succ]
        refine wpAnyH_take (i := 8) (v := ?_) rfl (by kernel_rfl) (by kernel_rfl) (by kernel_rfl) (fun _ _ _ h => h) (Or.inl ⟨by rfl, ?_⟩) (by assumption) ?_
        rotate_left
        · intro w hSw; (try dsimp only at hSw); go_simp; (try (with_reducible rfl))
        try simp only [List.getElem_toArray, List.getElem_cons_succ, List.getElem_cons_zero, Act.put, List.setIfInBounds_toArray, List.set_cons_zero, List.set_cons_succ]
        refine wpAnyH_take (i := 9) (v := ?_) rfl (by kernel_rfl) (by kernel_rfl) (by kernel_rfl) (fun _ _ _ h => h) (Or.inl ⟨by rfl, ?_⟩) (by assumption) ?_
        rotate_left
        · intro w hSw; (try dsimp only at hSw); go_simp; (try (with_reducible rfl))
        try simp only [List.getElem_toArray, List.getElem_cons_succ, List.getElem_cons_zero, Act.put, List.setIfInBounds_toArray, List.set_cons_zero, List.set_cons_succ]
        refine wpAnyH_take (i := 10) (v := ?_) rfl (by kernel_rfl) (by kernel_rfl) (by kernel_rfl) (fun _ _ _ h => h) (Or.inl ⟨by rfl, ?_⟩) (by assumption) ?_
        rotate_left
        · intro w hSw; (try dsimp only at hSw); go_simp; (try (with_reducible rfl))
        try simp only [List.getElem_toArray, List.getElem_cons_succ, List.getElem_cons_zero, Act.put, List.setIfInBounds_toArray, List.set_cons_zero, List.set_cons_succ]
        refine wpAnyH_take (i := 11) (v := ?_) rfl (by kernel_rfl) (by kernel_rfl) (by kernel_rfl) (fun _ _ _ h => h) (Or.inl ⟨by rfl, ?_⟩) (by assumption) ?_
        rotate_left
        · intro w hSw; (try dsimp only at hSw); go_simp; (try (with_reducible rfl))
        try simp only [List.getElem_toArray, List.getElem_cons_succ, List.getElem_cons_zero, Act.put, List.setIfInBounds_toArray, List.set_cons_zero, List.set_cons_succ]
        refine wpAnyH_take (i := 12) (v := ?_) rfl (by kernel_rfl) (by kernel_rfl) (by kernel_rfl) (fun _ _ _ h => h) (Or.inl ⟨by rfl, ?_⟩) (by assumption) ?_
        rotate_left
        · intro w hSw; (try dsimp only at hSw); go_simp; (try (with_reducible rfl))
        try simp only [List.getElem_toArray, List.getElem_cons_succ, List.getElem_cons_zero, Act.put, List.setIfInBounds_toArray, List.set_cons_zero, List.set_cons_succ]
        refine wpAnyH_ready (rs := [13]) (by kernel_rfl) (by simp) ?_
        refine AllReadyH.cons rfl (fun K hK => ?_) AllReadyH.nil
        go_simp
        refine hK.out _ _ ?_ (fun hHeld => ?_)
        · clear hK K; first | exact HS0.out | exact HS1.out
        clear hK K
        try simp only [List.getElem_toArray, List.getElem_cons_succ, List.getElem_cons_zero, Act.put, List.setIfInBounds_toArray, List.set_cons_zero, List.set_cons_succ]
        refine wpAnyH_done (by kernel_rfl) ?_ _
        clear hHeld HS0 HS1 hz2 hz3 hz4 hz5 hz6 hz7 hg hf
        go_wp2
        go_roundw
        case rel => exact ⟨k + 1, by omega, by go_num, HF.out⟩
        case measure => simp [intOf]; omega
      · obtain rfl : k = m := by omega
        go_wp2
        go_ret2
        refine ⟨⟨_, rfl, ?_⟩, HI.out.2⟩
        have h := HI.out.1
        rw [padR_all _ _ (velTo_length _ _)] at h
        rw [velTo_length]
        exact own_of_bk k h (velTo_length _ _) (Nat.le_refl _) (by omega)
  · have hX : velX xs = [] := by unfold velX; rw [if_neg hE]
    rw [hX]
    obtain ⟨E, hEe⟩ : ∃ E, turnErr xs = E := ⟨_, rfl⟩
    rw [hEe] at hE C ⊢
    have h1 : (E != 0) = true := by simpa using hE
    clear hE hEe hX hr
    go_enter Tryz.func29, Tryz.ntmps29
    go_wp2_with (go_at_call 59; refine C.out.mono ?_; rintro e w' ⟨rfl, rfl⟩)
    go_ret2
    exact OwnRes.none_ (Below.refl _ _)

end Go.Proofs.YtjjflbnopphciaaGreatDoor

